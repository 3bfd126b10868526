/- (*scanner).char, atom | (*scanner).atom | (*scanner).quoted -/
import Derived.Test.YtkocmjmmflphnaaGreatDoorTkEnc
namespace Go.Proofs.YtkocmjmmflphnaaGreatDoor
open Go.RowKit

theorem ends_enN (c : Nat) (w : World) : Calls Tryz.prog 47 #[.int .i64 (c : Nat)] w fun e w' => e = .returned (.bool (enN c)) ∧ w' = w := ends_nat (c : Int) w
/-- A character of its own. -/
def chrW (cs : List Nat) (f a : Nat) : Option (Wd × Nat) := (chrA cs a).map fun p => (leafW ⟨6, encN p.1, false, []⟩ f, p.2)
theorem chrA_at {cs : List Nat} {a : Nat} (h : a < cs.length) : chrA cs a = (namedA (encL (cutN cs a (til enN cs (a + 1))))).map fun c => (c, til enN cs (a + 1)) := by unfold chrA; rw [if_pos h]
theorem chrA_out {cs : List Nat} {a : Nat} (h : cs.length ≤ a) : chrA cs a = none := by unfold chrA; rw [if_neg (by omega)]
theorem one_sl (w : World) (c : Nat) : Sl .i64 (w.alloc (.cells #[.int .i64 ((c : Nat) : Int)] 3 (0, 0))) (.slice (some ⟨w.heap.size, 0, none⟩) 1 1) [c] :=
  ⟨by simp [maxLen], some ⟨w.heap.size, 0, none⟩, 1, rfl, by simp, .inr ⟨w.heap.size, 0, rfl, by simp, fun j hj => by
    match j, hj with
    | 0, _ => exact cell_of_row _ _ 0 _ _ (0, 0) (heap_alloc_new w _)⟩⟩

set_option maxRecDepth 100000 in
set_option maxHeartbeats 4000000 in
theorem char_any (W : World) (g : Nat) (sv : Value) (cs : List Nat) (f a : Nat) (w : World) (hs : Sc w g sv cs f a) (hgl : Gl W w g) :
    Calls Tryz.prog 40 #[.pointer (some ⟨g, 0, none⟩)] w (WPost (chrW cs f a) g sv cs f w) := by
  have HS := Lib.hid hs
  have HG := Lib.hid hgl; clear hgl
  have hlt := hs.lt
  have hlen := hs.small
  have hle := hs.le
  have HTB := Lib.hid (TB.new w)
  have hb0 := below1 w (.cells #[.int .i64 0, .string ⟨#[]⟩, .int .i64 0, .string ⟨#[]⟩, .bool false, .slice none 0 0, .slice none 0 0, .int .i64 0, .int .i64 0] 44)
  have HB0 := Lib.hid hb0
  have HS0 := Lib.hid (hs.below hb0)
  have hlt0 := (hs.below hb0).lt
  have HG0 := Lib.hid (HG.out.below hb0)
  have hsz0 : (w.alloc (.cells #[.int .i64 0, .string ⟨#[]⟩, .int .i64 0, .string ⟨#[]⟩, .bool false, .slice none 0 0, .slice none 0 0, .int .i64 0, .int .i64 0] 44)).heap.size = w.heap.size + 1 := by simp
  obtain ⟨c0, c1, c2, f1, f2⟩ := hs.box.facts
  clear hs hb0
  go_enter Tryz.func40, Tryz.ntmps40
  go_wp2_with fail
  clear c0 c1 c2 f1 f2
  generalize hw0 : w.alloc (.cells #[.int .i64 0, .string ⟨#[]⟩, .int .i64 0, .string ⟨#[]⟩, .bool false, .slice none 0 0, .slice none 0 0, .int .i64 0, .int .i64 0] 44) = w0 at *
  refine (next_any g sv cs f a _ HS0.out).mono ?_
  rintro e w1 (⟨hlt1, rfl, hs1, hk1⟩ | ⟨rfl, rfl, hk1⟩)
  rotate_left
  · exact ⟨rfl, WPost.no (by unfold chrW; rw [chrA_out (Nat.le_refl _)]; rfl) (Ks.two HB0.out hk1 (Ks.refl w.heap.size _) (Nat.le_refl _) hlt)⟩
  have HS1 := Lib.hid hs1
  have HK1 := Lib.hid hk1
  clear hs1 hk1
  go_wp2_with fail
  refine (until_ends enN ends_enN g sv cs f (a + 1) _ HS1.out).mono ?_
  rintro e w2 ⟨rfl, hs2, hk2⟩
  have HC := Lib.hid (chrA_at (cs := cs) hlt1)
  have hk1a : a ≤ til enN cs (a + 1) := by have := @til_ge' enN cs (a + 1); omega
  have hk1b : til enN cs (a + 1) ≤ cs.length := til_le (by omega)
  generalize til enN cs (a + 1) = k at *
  obtain ⟨ao, cap, rfl, hcap, hcell⟩ := hs2.open'
  obtain ⟨b, off, rfl, _⟩ := hcell a hlt1
  obtain ⟨c0, c1, c2, f1, f2⟩ := hs2.box.facts
  have HS2 := Lib.hid hs2
  have HK2 := Lib.hid (HK1.out.trans hk2)
  clear hs2 hk2 hcell
  have hca : ¬ cap = a := by omega
  have h1 : (k : Int) ≤ (cap : Int) := by omega
  have h2 : (a : Int) ≤ (k : Int) := by omega
  go_wp2_with fail
  have HSd := Lib.hid (HS2.out.below ((Below.refl w2.heap.size w2).drew))
  obtain ⟨D, hD⟩ : ∃ D, D = encL (cutN cs a k) := ⟨_, rfl⟩
  have HBY : Hid (By D) := Lib.hid (by rw [hD]; exact encL_byQ (cutN_sc HS2.out.sc))
  have HENC : Hid (Calls Tryz.prog 46 #[.slice (some ⟨b, off + a, none⟩) (k - a) (cap - a)] w2.drew fun e w' => e = .returned (.string (mkB D)) ∧ Below w2.heap.size w2 w') := Lib.hid
    ((encoded_any _ (cutN cs a k) _ (cutN_sl HSd.out.txt hk1a hk1b) (by rw [cutN_len hk1a hk1b]; omega) (cutN_sc HSd.out.sc)).mono fun e w' h => ⟨by rw [h.1, hD], ((Below.refl w2.heap.size w2).drew).trans h.2⟩)
  have HNAM : Hid (∀ Wx, Gl W Wx g → Calls Tryz.prog 48 #[.string (mkB D)] Wx (ChPost (namedA D) Wx)) := Lib.hid fun Wx hgx => by
    have := named_any (mkB D) Wx hgx.t2 hgx.wd
    rwa [byt_mk HBY.out] at this
  rw [← hD] at HC
  clear hD HSd
  go_region_held3 (fun W' => W'.cell? ⟨g, 0, none⟩ = some (.slice (some ⟨b, off, none⟩) cs.length cap) ∧ W'.cell? ⟨g, 2, none⟩ = some (.int .i64 (k : Nat)))
    ((first | exact ⟨c0, c2⟩ | exact ⟨d0, d2⟩ | exact ⟨p0, p2⟩))
    (first
      | (go_at_call 46; refine HENC.out.mono ?_; rintro e w3 ⟨rfl, hb3⟩; (have HS3 := Lib.hid (HS2.out.below hb3)); (have HK3 := Lib.hid (HK2.out.below hlt0 hb3)); clear hb3; (have hf3 := HS3.out.box.facts); obtain ⟨d0, _, d2, _, _⟩ := hf3)
      | (go_at_call 48; refine (HNAM.out _ (HG0.out.ks HK3.out)).mono ?_; rintro e w4 ⟨rfl, hb4⟩; (have HS4 := Lib.hid (HS3.out.below hb4)); (have HK4 := Lib.hid (HK3.out.below hlt0 hb4)); clear hb4; (have hf4 := HS4.out.box.facts); obtain ⟨p0, p1, p2, pf1, pf2⟩ := hf4))
  clear c0 c1 c2 f1 f2 hca h1 h2
  cases hnm : namedA D with
  | none =>
    rw [hnm] at HC
    go_wp2_with fail
    exact ⟨rfl, WPost.no (by unfold chrW; rw [HC.out]; rfl) (Ks.two HB0.out HK4.out (Ks.refl w.heap.size _) (Nat.le_refl _) hlt)⟩
  | some c =>
    have HCQ := Lib.hid (namedA_sc HBY.out hnm)
    rw [hnm] at HC
    clear p0 p1 p2 pf1 pf2
    go_wp2_with fail
    have hb5 := below1 w4 (.cells #[.int .i64 ((c : Nat) : Int)] 3 (0, 0))
    refine (encoded_any _ [c] _ (one_sl w4 c) (by simp) (by intro x hx; rw [List.mem_singleton] at hx; rw [hx]; exact HCQ.out)).mono ?_
    rintro e w5 ⟨rfl, hb6⟩
    have e1 : encL [c] = encN c := by simp [encL]
    rw [e1]
    have HS5 := Lib.hid ((HS4.out.below hb5).below hb6)
    have HK5 := Lib.hid ((HK4.out.below hlt0 hb5).below hlt0 hb6)
    clear hb5 hb6 e1
    go_wp2_with fail
    refine (leaf_any g _ cs f k _ HS5.out 6 (mkB (encN c)) false none 0 0).mono ?_
    rintro e w6 ⟨rfl, hb7⟩
    have HS6 := Lib.hid (HS5.out.below hb7)
    have HK6 := Lib.hid (HK5.out.below hlt0 hb7)
    have HT6 := Lib.hid (HTB.out.ks HK6.out (by omega))
    clear hb7
    obtain ⟨c0, c1, c2, c3, c4, c5, c6, c7, c8, f0, f1, f2, f3, f4, f5, f6, f7, f8⟩ := HT6.out.facts
    go_wp2_with fail
    obtain ⟨hrow, hk⟩ := HT6.out.fill (.int .i64 7) (.string ⟨#[]⟩) (.int .i64 6) (.string (mkB (encN c))) (.bool false) (.slice none 0 0) (.slice none 0 0) (.int .i64 (f : Nat)) (.int .i64 (f : Nat))
    have HKF := Lib.hid (Ks.two HB0.out HK6.out hk (Nat.le_refl _) hlt)
    have HSF := Lib.hid (HS6.out.ks2 hk (by omega) (fun he => by have := HS.out.svb (by omega) _ he; omega))
    clear c0 c1 c2 c3 c4 c5 c6 c7 c8 f0 f1 f2 f3 f4 f5 f6 f7 f8
    generalize World.setCell _ ⟨w.heap.size, 8, none⟩ (.int .i64 (f : Nat)) = W' at *
    obtain ⟨c0, c1, c2, c3, c4, c5, c6, c7, c8⟩ := row9 hrow
    refine bodyPost_ret (v := .agg #[.int .i64 7, .string ⟨#[]⟩, .int .i64 6, .string (mkB (encN c)), .bool false, .slice none 0 0, .slice none 0 0, .int .i64 (f : Nat), .int .i64 (f : Nat)]) (by simp [results, Tryz.results40, go_sem, c0, c1, c2, c3, c4, c5, c6, c7, c8]) rfl ?_
    exact WPost.yes (x := leafW ⟨6, encN c, false, []⟩ f) (j := k) (lv := .slice none 0 0) (by unfold chrW; rw [HC.out]; rfl) rfl HKF.out (Sl.nil _ _) HSF.out
end Go.Proofs.YtkocmjmmflphnaaGreatDoor
namespace Go.Proofs.YtkocmjmmflphnaaGreatDoor
open Go.RowKit

/-- A word that begins with nothing that tells its kind. -/
noncomputable def atmW (cs : List Nat) (f : Nat) : Option (Wd × Nat) :=
  if encL (cutN cs f (til enN cs f)) = [46] then some (dotW f, til enN cs f) else (atmA (encL (cutN cs f (til enN cs f)))).map fun d => (leafW d f, til enN cs f)

set_option maxRecDepth 100000 in
set_option maxHeartbeats 4000000 in
theorem atom_any (W : World) (g : Nat) (sv : Value) (cs : List Nat) (f : Nat) (w : World) (hs : Sc w g sv cs f f) (hgl : Gl W w g) (hf : f < cs.length) :
    Calls Tryz.prog 41 #[.pointer (some ⟨g, 0, none⟩)] w (WPost (atmW cs f) g sv cs f w) := by
  have HS := Lib.hid hs
  have HG := Lib.hid hgl; clear hgl
  have hlt := hs.lt
  have hlen := hs.small
  have HTB := Lib.hid (TB.new w)
  have hb0 := below1 w (.cells #[.int .i64 0, .string ⟨#[]⟩, .int .i64 0, .string ⟨#[]⟩, .bool false, .slice none 0 0, .slice none 0 0, .int .i64 0, .int .i64 0] 44)
  have HB0 := Lib.hid hb0
  have HS0 := Lib.hid (hs.below hb0)
  have hlt0 := (hs.below hb0).lt
  have HG0 := Lib.hid (HG.out.below hb0)
  have hsz0 : (w.alloc (.cells #[.int .i64 0, .string ⟨#[]⟩, .int .i64 0, .string ⟨#[]⟩, .bool false, .slice none 0 0, .slice none 0 0, .int .i64 0, .int .i64 0] 44)).heap.size = w.heap.size + 1 := by simp
  clear hs hb0
  go_enter Tryz.func41, Tryz.ntmps41
  go_wp2_with fail
  generalize hw0 : w.alloc (.cells #[.int .i64 0, .string ⟨#[]⟩, .int .i64 0, .string ⟨#[]⟩, .bool false, .slice none 0 0, .slice none 0 0, .int .i64 0, .int .i64 0] 44) = w0 at *
  refine (until_ends enN ends_enN g sv cs f f _ HS0.out).mono ?_
  rintro e w2 ⟨rfl, hs2, hk2⟩
  have hkf : f ≤ til enN cs f := til_ge'
  have hkl : til enN cs f ≤ cs.length := til_le (by omega)
  have hdef : atmW cs f = if encL (cutN cs f (til enN cs f)) = [46] then some (dotW f, til enN cs f) else (atmA (encL (cutN cs f (til enN cs f)))).map fun d => (leafW d f, til enN cs f) := rfl
  generalize til enN cs f = k at *
  obtain ⟨ao, cap, rfl, hcap, hcell⟩ := hs2.open'
  obtain ⟨b, off, rfl, _⟩ := hcell f hf
  obtain ⟨c0, c1, c2, f1, f2⟩ := hs2.box.facts
  have HS2 := Lib.hid hs2
  have HK2 := Lib.hid hk2
  clear hs2 hk2 hcell
  have hca : ¬ cap = f := by omega
  have h1 : (k : Int) ≤ (cap : Int) := by omega
  have h2 : (f : Int) ≤ (k : Int) := by omega
  have HSd := Lib.hid (HS2.out.below ((Below.refl w2.heap.size w2).drew))
  have hl := cutN_len (cs := cs) hkf hkl
  have hDs : (encL (cutN cs f k)).length ≤ 8000000 := by have := encL_len (cutN cs f k); omega
  obtain ⟨D, hD⟩ : ∃ D, D = encL (cutN cs f k) := ⟨_, rfl⟩
  have HBY : Hid (By D) := Lib.hid (by rw [hD]; exact encL_byQ (cutN_sc HS2.out.sc))
  have HENC : Hid (Calls Tryz.prog 46 #[.slice (some ⟨b, off + f, none⟩) (k - f) (cap - f)] w2.drew fun e w' => e = .returned (.string (mkB D)) ∧ Below w2.heap.size w2 w') := Lib.hid
    ((encoded_any _ (cutN cs f k) _ (cutN_sl HSd.out.txt hkf hkl) (by omega) (cutN_sc HSd.out.sc)).mono fun e w' h => ⟨by rw [h.1, hD], ((Below.refl w2.heap.size w2).drew).trans h.2⟩)
  rw [← hD] at hDs hdef
  have HDEF := Lib.hid hdef
  have HDS := Lib.hid hDs
  clear hD HSd hl hdef hDs
  go_wp2_with fail
  go_region_held3 (fun W' => W'.cell? ⟨g, 0, none⟩ = some (.slice (some ⟨b, off, none⟩) cs.length cap) ∧ W'.cell? ⟨g, 1, none⟩ = some (.int .i64 (f : Nat)) ∧ W'.cell? ⟨g, 2, none⟩ = some (.int .i64 (k : Nat)))
    ((first | exact ⟨c0, c1, c2⟩ | exact ⟨d0, d1, d2⟩))
    (first
      | (go_at_call 46; refine HENC.out.mono ?_; rintro e w3 ⟨rfl, hb3⟩; (have HS3 := Lib.hid (HS2.out.below hb3)); (have HK3 := Lib.hid (HK2.out.below hlt0 hb3)); clear hb3; (have hf3 := HS3.out.box.facts); obtain ⟨d0, d1, d2, df1, df2⟩ := hf3))
  clear c0 c1 c2 f1 f2 hca h1 h2 HENC
  have hbm := byt_mk HBY.out
  cases hdot : ((mkB D).toList == [46]) with
  | true =>
    have hD : D = [46] := by rw [lit_iff, hbm] at hdot; simp at hdot; exact hdot
    have HA := Lib.hid (HDEF.out.trans (if_pos hD))
    have HT3 := Lib.hid (HTB.out.ks HK3.out (by omega))
    obtain ⟨c0, c1, c2, c3, c4, c5, c6, c7, c8, f0, f1, f2, f3, f4, f5, f6, f7, f8⟩ := HT3.out.facts
    clear hD
    go_wp2_with fail
    obtain ⟨hrow, hk⟩ := HT3.out.fill (.int .i64 4) (.string ⟨#[]⟩) (.int .i64 0) (.string ⟨#[]⟩) (.bool false) (.slice none 0 0) (.slice none 0 0) (.int .i64 0) (.int .i64 (f : Nat))
    have HKF := Lib.hid (Ks.two HB0.out HK3.out hk (Nat.le_refl _) hlt)
    have HSF := Lib.hid (HS3.out.ks2 hk (by omega) (fun he => by have := HS.out.svb (by omega) _ he; omega))
    clear c0 c1 c2 c3 c4 c5 c6 c7 c8 f0 f1 f2 f3 f4 f5 f6 f7 f8 d0 d1 d2 df1 df2
    generalize World.setCell _ ⟨w.heap.size, 8, none⟩ (.int .i64 (f : Nat)) = W' at *
    obtain ⟨c0, c1, c2, c3, c4, c5, c6, c7, c8⟩ := row9 hrow
    refine bodyPost_ret (v := .agg #[.int .i64 4, .string ⟨#[]⟩, .int .i64 0, .string ⟨#[]⟩, .bool false, .slice none 0 0, .slice none 0 0, .int .i64 0, .int .i64 (f : Nat)]) (by simp [results, Tryz.results41, go_sem, c0, c1, c2, c3, c4, c5, c6, c7, c8]) rfl ?_
    exact WPost.yes (x := dotW f) (j := k) (lv := .slice none 0 0) HA.out rfl HKF.out (Sl.nil _ _) HSF.out
  | false =>
    have hD : ¬ D = [46] := by rw [lit_iff, hbm] at hdot; simp at hdot; exact hdot
    have HA := Lib.hid (HDEF.out.trans (if_neg hD))
    have HBM := Lib.hid hbm
    clear hD hbm d0 d1 d2 df1 df2
    go_wp2_with fail
    refine (tatom_any (mkB D) _ (HG0.out.ks HK3.out).t2.utf (by rw [mkB_size]; have := HDS.out; omega)).mono ?_
    rintro e w4 ⟨lv, rfl, hlv, hb4⟩
    rw [HBM.out] at hlv ⊢
    have HS4 := Lib.hid (HS3.out.below hb4)
    have HK4 := Lib.hid (HK3.out.below hlt0 hb4)
    clear hb4
    cases hat : atmA D with
    | none =>
      rw [hat] at hlv
      have HA2 : Hid (atmW cs f = none) := Lib.hid (by rw [HA.out, hat]; rfl)
      have hlv2 : Sl .u32 w4 lv [] := hlv
      obtain ⟨_, av, cv, rfl, _, _⟩ := hlv2
      obtain ⟨d0, d1, d2, df1, df2⟩ := HS4.out.box.facts
      have hg4 := HS4.out.lt
      clear hlv hat
      simp only [Option.getD_none, Option.isSome_none, dtV, zD]
      go_wp2_with fail
      refine ⟨rfl, WPost.no HA2.out (Ks.two HB0.out (w' := w4) HK4.out ?_ (Nat.le_refl _) hlt)⟩
      refine Ks.of_below (by have := HK4.out.size; omega) ?_
      repeat (first | exact Below.refl _ _ | refine Below.setCell ?_ (by simp) _ | refine Below.alloc ?_ (by simp) _ | refine Below.drew ?_ | refine below_drewN ?_ _)
    | some d =>
      rw [hat] at hlv
      have HA2 : Hid (atmW cs f = some (leafW d f, k)) := Lib.hid (by rw [HA.out, hat]; rfl)
      have hlv2 : Sl .u32 w4 lv d.r := hlv
      have HLV := Lib.hid hlv2
      obtain ⟨_, av, cv, rfl, _, _⟩ := hlv2
      clear hlv hat
      obtain ⟨dk, dt, dn, dr⟩ := d
      simp only [Option.getD_some, Option.isSome_some, dtV]
      go_wp2_with fail
      have hb5 := below1 w4 (.cells #[.int .i64 (dk : Nat), .string (mkB dt), .bool dn, .slice av dr.length cv, .slice none 0 0, .int .i64 0] 42)
      refine (leaf_any g _ cs f k _ (HS4.out.below hb5) dk (mkB dt) dn av dr.length cv).mono ?_
      rintro e w5 ⟨rfl, hb6⟩
      have HS5 := Lib.hid ((HS4.out.below hb5).below hb6)
      have HK5 := Lib.hid ((HK4.out.below hlt0 hb5).below hlt0 hb6)
      have HL5 := Lib.hid ((HLV.out.below hb5).below hb6)
      have HT5 := Lib.hid (HTB.out.ks HK5.out (by omega))
      clear hb5 hb6
      obtain ⟨c0, c1, c2, c3, c4, c5, c6, c7, c8, f0, f1, f2, f3, f4, f5, f6, f7, f8⟩ := HT5.out.facts
      go_wp2_with fail
      obtain ⟨hrow, hk⟩ := HT5.out.fill (.int .i64 7) (.string ⟨#[]⟩) (.int .i64 (dk : Nat)) (.string (mkB dt)) (.bool dn) (.slice av dr.length cv) (.slice none 0 0) (.int .i64 (f : Nat)) (.int .i64 (f : Nat))
      have HKF := Lib.hid (Ks.two HB0.out HK5.out hk (Nat.le_refl _) hlt)
      have HSF := Lib.hid (HS5.out.ks2 hk (by omega) (fun he => by have := HS.out.svb (by omega) _ he; omega))
      have HLF := Lib.hid (HL5.out.u32s (U32S.ks hk HT5.out.noU))
      clear c0 c1 c2 c3 c4 c5 c6 c7 c8 f0 f1 f2 f3 f4 f5 f6 f7 f8
      generalize World.setCell _ ⟨w.heap.size, 8, none⟩ (.int .i64 (f : Nat)) = W' at *
      obtain ⟨c0, c1, c2, c3, c4, c5, c6, c7, c8⟩ := row9 hrow
      refine bodyPost_ret (v := .agg #[.int .i64 7, .string ⟨#[]⟩, .int .i64 (dk : Nat), .string (mkB dt), .bool dn, .slice av dr.length cv, .slice none 0 0, .int .i64 (f : Nat), .int .i64 (f : Nat)]) (by simp [results, Tryz.results41, go_sem, c0, c1, c2, c3, c4, c5, c6, c7, c8]) rfl ?_
      exact WPost.yes (x := leafW ⟨dk, dt, dn, dr⟩ f) (j := k) (lv := .slice av dr.length cv) HA2.out rfl HKF.out HLF.out HSF.out
end Go.Proofs.YtkocmjmmflphnaaGreatDoor
namespace Go.Proofs.YtkocmjmmflphnaaGreatDoor
open Go.RowKit

/-- What a string's reading comes to. -/
def quoW (cs : List Nat) (f i : Nat) (acc : List Nat) : Option (Wd × Nat) := (quoA cs i acc).map fun p => (leafW ⟨5, encL p.1, false, []⟩ f, p.2)

set_option maxRecDepth 100000 in
set_option maxHeartbeats 4000000 in
theorem quoted_any (W : World) (g : Nat) (sv : Value) (cs : List Nat) (f a : Nat) (w : World) (hs : Sc w g sv cs f a) (hgl : Gl W w g) :
    Calls Tryz.prog 39 #[.pointer (some ⟨g, 0, none⟩)] w (WPost (quoW cs f a []) g sv cs f w) := by
  obtain ⟨i0, hi, hz0, hz1, hz2⟩ := info_parts infoInt
  have HS := Lib.hid hs
  have HG := Lib.hid hgl; clear hgl
  have hlt := hs.lt
  have hlen := hs.small
  have HTB := Lib.hid (TB.new w)
  have hb0 := below1 w (.cells #[.int .i64 0, .string ⟨#[]⟩, .int .i64 0, .string ⟨#[]⟩, .bool false, .slice none 0 0, .slice none 0 0, .int .i64 0, .int .i64 0] 44)
  have HB0 := Lib.hid hb0
  have HS0 := Lib.hid (hs.below hb0)
  have hlt0 := (hs.below hb0).lt
  have HG0 := Lib.hid (HG.out.below hb0)
  have hsz0 : (w.alloc (.cells #[.int .i64 0, .string ⟨#[]⟩, .int .i64 0, .string ⟨#[]⟩, .bool false, .slice none 0 0, .slice none 0 0, .int .i64 0, .int .i64 0] 44)).heap.size = w.heap.size + 1 := by simp
  clear hs hb0
  go_enter Tryz.func39, Tryz.ntmps39
  go_wp2_with fail
  generalize hw0 : w.alloc (.cells #[.int .i64 0, .string ⟨#[]⟩, .int .i64 0, .string ⟨#[]⟩, .bool false, .slice none 0 0, .slice none 0 0, .int .i64 0, .int .i64 0] 44) = w0 at *
  refine (next_any g sv cs f a _ HS0.out).mono ?_
  rintro e w1 (⟨hlt1, rfl, hs1, hk1⟩ | ⟨rfl, rfl, hk1⟩)
  rotate_left
  · exact ⟨rfl, WPost.no (by unfold quoW; rw [quoA_out (Nat.le_refl _)]; rfl) (Ks.two HB0.out hk1 (Ks.refl w.heap.size _) (Nat.le_refl _) hlt)⟩
  have HS1 := Lib.hid hs1
  have HK1 := Lib.hid hk1
  clear hs1 hk1
  go_wp2_with fail
  go_loopg [3, 4] (cs.length - a) (fun gk v c wr => ∃ i acc, i < cs.length ∧ c = .int .i64 ((limb cs i : Nat) : Int) ∧ Sc wr g sv cs f (i + 1) ∧ quoA cs i acc = quoA cs a [] ∧ acc.length ≤ 4096 ∧ (∀ x ∈ acc, ScQ x) ∧ wr.ownsRow w0.heap.size 3 1 v acc.length (acc.map fun (x : Nat) => Value.int .i64 (x : Int)) ∧ Ks g w0 wr ∧ cs.length - i ≤ gk)
  case atStart => exact ⟨a, [], hlt1, rfl, HS1.out, rfl, by simp, by simp, World.ownsRow_nil _ _ _ _, HK1.out, Nat.le_refl _⟩
  case round =>
    obtain ⟨i, acc, hil, rfl, hsc, hq, hacc, haq, hown, hks, hm⟩ := hrel
    have HQ := Lib.hid hq; clear hq
    have HAQ := Lib.hid haq; clear haq
    have HK := Lib.hid hks; clear hks
    have HSC := Lib.hid hsc; clear hsc
    have HCQ : Hid (ScQ (limb cs i)) := Lib.hid (HSC.out.sc _ (by rw [limb_lt hil]; exact List.getElem_mem hil))
    by_cases h34 : limb cs i = 34
    · have HQ2 := Lib.hid (quoA_quote (acc := acc) hil h34)
      have hq34 : (((limb cs i : Nat) : Int) != 34) = false := by rw [h34]; rfl
      have hsl := owns_sl hown
      clear hown h34
      go_wp2_with fail
      refine (encoded_any _ acc _ hsl (by omega) HAQ.out).mono ?_
      rintro e w2 ⟨rfl, hb2⟩
      have HS2 := Lib.hid (HSC.out.below hb2)
      have HK2 := Lib.hid (HK.out.below hlt0 hb2)
      clear hb2 hsl
      go_wp2_with fail
      refine (leaf_any g sv cs f (i + 1) _ HS2.out 5 (mkB (encL acc)) false none 0 0).mono ?_
      rintro e w3 ⟨rfl, hb3⟩
      have HS3 := Lib.hid (HS2.out.below hb3)
      have HK3 := Lib.hid (HK2.out.below hlt0 hb3)
      have HT3 := Lib.hid (HTB.out.ks HK3.out (by omega))
      clear hb3
      obtain ⟨c0, c1, c2, c3, c4, c5, c6, c7, c8, f0, f1, f2, f3, f4, f5, f6, f7, f8⟩ := HT3.out.facts
      go_wp2_with fail
      obtain ⟨hrow, hk⟩ := HT3.out.fill (.int .i64 7) (.string ⟨#[]⟩) (.int .i64 5) (.string (mkB (encL acc))) (.bool false) (.slice none 0 0) (.slice none 0 0) (.int .i64 (f : Nat)) (.int .i64 (f : Nat))
      have HKF := Lib.hid (Ks.two HB0.out HK3.out hk (Nat.le_refl _) hlt)
      have hsvb : sv.ownBlock ≠ some w.heap.size := fun he => by have := HS.out.svb (by omega) _ he; omega
      have HSF := Lib.hid (HS3.out.ks2 hk (by omega) hsvb)
      clear c0 c1 c2 c3 c4 c5 c6 c7 c8 f0 f1 f2 f3 f4 f5 f6 f7 f8
      generalize World.setCell _ ⟨w.heap.size, 8, none⟩ (.int .i64 (f : Nat)) = W' at *
      obtain ⟨c0, c1, c2, c3, c4, c5, c6, c7, c8⟩ := row9 hrow
      refine bodyPost_ret (v := .agg #[.int .i64 7, .string ⟨#[]⟩, .int .i64 5, .string (mkB (encL acc)), .bool false, .slice none 0 0, .slice none 0 0, .int .i64 (f : Nat), .int .i64 (f : Nat)]) (by simp [results, Tryz.results39, go_sem, c0, c1, c2, c3, c4, c5, c6, c7, c8]) rfl ?_
      exact WPost.yes (x := leafW ⟨5, encL acc, false, []⟩ f) (j := i + 1) (lv := .slice none 0 0) (by unfold quoW; rw [← HQ.out, HQ2.out]; rfl) rfl HKF.out (Sl.nil _ _) HSF.out
    · have hq34 : (((limb cs i : Nat) : Int) != 34) = true := by rw [bne_iff_ne]; omega
      by_cases h92 : limb cs i = 92
      · have hq92 : (((limb cs i : Nat) : Int) == 92) = true := by rw [h92]; rfl
        have hnx : nxA cs i = escA cs (i + 1) := by unfold nxA; rw [if_pos h92]
        have hown0 := hown
        obtain ⟨av0, cv0, hve0⟩ := owns_slice hown
        clear hown h92
        go_wp2_with fail
        refine (escape_any W g sv cs f (i + 1) _ HSC.out (HG0.out.ks HK.out)).mono ?_
        rintro e w2 ⟨hkx, ⟨c', j, hn, rfl, hsx⟩ | ⟨hn, rfl⟩⟩
        · have HNX := Lib.hid (hnx.trans hn)
          clear hn hnx hve0
          have HOW := Lib.hid (owns_ks hown0 hkx hlt0)
          have HKx := Lib.hid (HK.out.trans hkx)
          have HSx := Lib.hid hsx
          have HCx : Hid (ScQ c') := Lib.hid (nxA_sc HSC.out.sc hil HNX.out)
          clear hkx hsx
          by_cases h4096 : acc.length = 4096
          · have HQL := Lib.hid (quoA_long hil h34 HNX.out h4096)
            obtain ⟨c0, c1, c2, f1, f2⟩ := HSx.out.box.facts
            have hql : ((acc.length : Int) == 4096) = true := by rw [h4096]; rfl
            obtain ⟨av, cv, rfl⟩ := owns_slice HOW.out
            clear h4096 h34
            go_wp2_with fail
            exact ⟨rfl, WPost.no (by unfold quoW; rw [← HQ.out, HQL.out]; rfl) (Ks.two HB0.out HKx.out (Ks.refl w.heap.size _) (Nat.le_refl _) hlt)⟩
          · have HQS := Lib.hid (quoA_step hil h34 HNX.out h4096)
            have hql : ((acc.length : Int) == 4096) = false := by rw [beq_eq_false_iff_ne]; omega
            have hgtj := nxA_gt hil HNX.out
            have hacc2 : acc.length + 1 ≤ 4096 := by omega
            have hw00 : w0.heap.size ≤ w2.heap.size := HKx.out.size
            obtain ⟨av, cv, hve⟩ := owns_slice HOW.out
            subst hve
            clear h4096 h34
            go_wp2_with (at_builtin; go_loud (refine wpList_append_own _ rfl _ _ 22 rfl w0.heap.size 3 i0 (.int .i64 0) 1 8 Tryz.underlying22 hi hz0 hz1 hz2 rfl (by decide) _ acc.length (acc.map fun (x : Nat) => Value.int .i64 (x : Int)) rfl (HOW.out.alloc _) ⟨w2.heap.size, 0, none⟩ 1 1 [.int .i64 ((c' : Nat) : Int)] rfl (by simp) (cell_one_new _ _ _) (by intro u hu; rw [List.mem_singleton] at hu; subst hu; rfl) (by unfold maxLen; omega) (by omega) (by simp; omega) ?_); intro v' wz hown1 hgrow hnil; clear hnil)
            have hlo := HOW.out.lt
            have hgrow' : World.grownBy (w2.alloc (.cells #[.int .i64 ((c' : Nat) : Int)] 3 (0, 0))) wz (Value.ownBlock (.slice av acc.length cv)) := hgrow
            have HKy := Lib.hid ((HKx.out.alloc hlt0 (.cells #[.int .i64 ((c' : Nat) : Int)] 3 (0, 0))).grown hlt0 hgrow' (fun k hk => (hlo k hk).1))
            have hsvb := HS.out.svb (by omega)
            have HSy := Lib.hid ((HSx.out.alloc (.cells #[.int .i64 ((c' : Nat) : Int)] 3 (0, 0))).grown hgrow' (fun e => by have := (hlo g e).1; omega) (fun b hb e => by have := (hlo b e).1; have := hsvb b hb; omega))
            have e1 : ((acc.map fun (x : Nat) => Value.int .i64 (x : Int)) ++ [.int .i64 ((c' : Nat) : Int)]) = (acc ++ [c']).map fun (x : Nat) => Value.int .i64 (x : Int) := by simp
            have e2 : acc.length + 1 = (acc ++ [c']).length := by simp
            rw [e1, e2] at hown1
            have HOW1 := Lib.hid hown1
            clear hown1 hgrow hgrow' e1 e2 hlo hsvb
            go_wp2_with fail
            refine (next_any g sv cs f j _ HSy.out).mono ?_
            rintro e w5 (⟨hltj, rfl, hs5, hk5⟩ | ⟨rfl, rfl, hk5⟩)
            · have HS5 := Lib.hid hs5
              have HK5 := Lib.hid hk5
              clear hs5 hk5
              go_wp2_with fail
              go_roundg (cs.length - j)
              case measure => omega
              case rel =>
                refine ⟨j, acc ++ [c'], hltj, rfl, HS5.out, by rw [← HQS.out]; exact HQ.out, by simp; omega, fun x hx => ?_, owns_ks HOW1.out HK5.out hlt0, HKy.out.trans HK5.out, Nat.le_refl _⟩
                rcases List.mem_append.1 hx with hx | hx
                · exact HAQ.out x hx
                · rw [List.mem_singleton] at hx; rw [hx]; exact HCx.out
            · exact ⟨rfl, WPost.no (by unfold quoW; rw [← HQ.out, HQS.out, quoA_out (Nat.le_refl _)]; rfl) (Ks.two HB0.out (HKy.out.trans hk5) (Ks.refl w.heap.size _) (Nat.le_refl _) hlt)⟩
        · exact ⟨rfl, WPost.no (by unfold quoW; rw [← HQ.out, quoA_bad hil h34 (hnx.trans hn)]; rfl) (Ks.two HB0.out (HK.out.trans hkx) (Ks.refl w.heap.size _) (Nat.le_refl _) hlt)⟩
      · have hq92 : (((limb cs i : Nat) : Int) == 92) = false := by rw [beq_eq_false_iff_ne]; omega
        have hnx : nxA cs i = some (limb cs i, i + 1) := by unfold nxA; rw [if_neg h92]
        have hown0 := hown
        obtain ⟨av0, cv0, hve0⟩ := owns_slice hown
        have hsx := HSC.out
        have hkx := Ks.refl g wr
        have HNX := Lib.hid hnx
        obtain ⟨j, hj⟩ : ∃ j, j = i + 1 := ⟨_, rfl⟩
        obtain ⟨c', hc'⟩ : ∃ c', c' = limb cs i := ⟨_, rfl⟩
        rw [← hj] at hsx HNX
        rw [← hc'] at HNX hq34 hq92 ⊢
        clear hown h92 hnx hve0 hc' hj
        have HOW := Lib.hid (owns_ks hown0 hkx hlt0)
        have HKx := Lib.hid (HK.out.trans hkx)
        have HSx := Lib.hid hsx
        have HCx : Hid (ScQ c') := Lib.hid (nxA_sc HSC.out.sc hil HNX.out)
        clear hkx hsx
        by_cases h4096 : acc.length = 4096
        · have HQL := Lib.hid (quoA_long hil h34 HNX.out h4096)
          obtain ⟨c0, c1, c2, f1, f2⟩ := HSx.out.box.facts
          have hql : ((acc.length : Int) == 4096) = true := by rw [h4096]; rfl
          obtain ⟨av, cv, rfl⟩ := owns_slice HOW.out
          clear h4096 h34
          go_wp2_with fail
          exact ⟨rfl, WPost.no (by unfold quoW; rw [← HQ.out, HQL.out]; rfl) (Ks.two HB0.out HKx.out (Ks.refl w.heap.size _) (Nat.le_refl _) hlt)⟩
        · have HQS := Lib.hid (quoA_step hil h34 HNX.out h4096)
          have hql : ((acc.length : Int) == 4096) = false := by rw [beq_eq_false_iff_ne]; omega
          have hgtj := nxA_gt hil HNX.out
          have hacc2 : acc.length + 1 ≤ 4096 := by omega
          have hw00 : w0.heap.size ≤ wr.heap.size := HKx.out.size
          obtain ⟨av, cv, hve⟩ := owns_slice HOW.out
          subst hve
          clear h4096 h34
          go_wp2_with (at_builtin; go_loud (refine wpList_append_own _ rfl _ _ 22 rfl w0.heap.size 3 i0 (.int .i64 0) 1 8 Tryz.underlying22 hi hz0 hz1 hz2 rfl (by decide) _ acc.length (acc.map fun (x : Nat) => Value.int .i64 (x : Int)) rfl (HOW.out.alloc _) ⟨wr.heap.size, 0, none⟩ 1 1 [.int .i64 ((c' : Nat) : Int)] rfl (by simp) (cell_one_new _ _ _) (by intro u hu; rw [List.mem_singleton] at hu; subst hu; rfl) (by unfold maxLen; omega) (by omega) (by simp; omega) ?_); intro v' wz hown1 hgrow hnil; clear hnil)
          have hlo := HOW.out.lt
          have hgrow' : World.grownBy (wr.alloc (.cells #[.int .i64 ((c' : Nat) : Int)] 3 (0, 0))) wz (Value.ownBlock (.slice av acc.length cv)) := hgrow
          have HKy := Lib.hid ((HKx.out.alloc hlt0 (.cells #[.int .i64 ((c' : Nat) : Int)] 3 (0, 0))).grown hlt0 hgrow' (fun k hk => (hlo k hk).1))
          have hsvb := HS.out.svb (by omega)
          have HSy := Lib.hid ((HSx.out.alloc (.cells #[.int .i64 ((c' : Nat) : Int)] 3 (0, 0))).grown hgrow' (fun e => by have := (hlo g e).1; omega) (fun b hb e => by have := (hlo b e).1; have := hsvb b hb; omega))
          have e1 : ((acc.map fun (x : Nat) => Value.int .i64 (x : Int)) ++ [.int .i64 ((c' : Nat) : Int)]) = (acc ++ [c']).map fun (x : Nat) => Value.int .i64 (x : Int) := by simp
          have e2 : acc.length + 1 = (acc ++ [c']).length := by simp
          rw [e1, e2] at hown1
          have HOW1 := Lib.hid hown1
          clear hown1 hgrow hgrow' e1 e2 hlo hsvb
          go_wp2_with fail
          refine (next_any g sv cs f j _ HSy.out).mono ?_
          rintro e w5 (⟨hltj, rfl, hs5, hk5⟩ | ⟨rfl, rfl, hk5⟩)
          · have HS5 := Lib.hid hs5
            have HK5 := Lib.hid hk5
            clear hs5 hk5
            go_wp2_with fail
            go_roundg (cs.length - j)
            case measure => omega
            case rel =>
              refine ⟨j, acc ++ [c'], hltj, rfl, HS5.out, by rw [← HQS.out]; exact HQ.out, by simp; omega, fun x hx => ?_, owns_ks HOW1.out HK5.out hlt0, HKy.out.trans HK5.out, Nat.le_refl _⟩
              rcases List.mem_append.1 hx with hx | hx
              · exact HAQ.out x hx
              · rw [List.mem_singleton] at hx; rw [hx]; exact HCx.out
          · exact ⟨rfl, WPost.no (by unfold quoW; rw [← HQ.out, HQS.out, quoA_out (Nat.le_refl _)]; rfl) (Ks.two HB0.out (HKy.out.trans hk5) (Ks.refl w.heap.size _) (Nat.le_refl _) hlt)⟩
end Go.Proofs.YtkocmjmmflphnaaGreatDoor
