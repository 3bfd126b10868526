/- (*scanner).char, atom | (*scanner).atom | (*scanner).quoted | (*scanner).word -/
import Derived.Test.YtpahfhjgcflifaaGreatDoorTkEnc
import Derived.Deep.MidRow
import Derived.Deep.Cut
namespace Go.Proofs.YtpahfhjgcflifaaGreatDoor
open Go.RowKit

theorem ends_enN (c : Nat) (w : World) : Calls Tryz.prog 115 #[.int .i64 (c : Nat)] w fun e w' => e = .returned (.bool (enN c)) ∧ w' = w := ends_nat (c : Int) w
/-- A character of its own. -/
def chrW (cs : List Nat) (f a : Nat) : Option (Wd × Nat) := (chrA cs a).map fun p => (leafW ⟨6, encN p.1, false, []⟩ f, p.2)
theorem chrA_at {cs : List Nat} {a : Nat} (h : a < cs.length) : chrA cs a = (namedA (encL (cutN cs a (til enN cs (a + 1))))).map fun c => (c, til enN cs (a + 1)) := by unfold chrA; rw [if_pos h]
theorem chrA_out {cs : List Nat} {a : Nat} (h : cs.length ≤ a) : chrA cs a = none := by unfold chrA; rw [if_neg (by omega)]
theorem one_sl (w : World) (c : Nat) : Sl .i64 (w.alloc (.cells #[.int .i64 ((c : Nat) : Int)] 3 (0, 0))) (.slice (some ⟨w.heap.size, 0, none⟩) 1 1) [c] :=
  ⟨by simp [maxLen], some ⟨w.heap.size, 0, none⟩, 1, rfl, by simp, .inr ⟨w.heap.size, 0, rfl, by simp, fun j hj => by
    match j, hj with
    | 0, _ => exact cell_of_row _ _ 0 _ _ (0, 0) (heap_alloc_new w _)⟩⟩

set_option maxRecDepth 100000 in
set_option maxHeartbeats 4000000 in
theorem char_any (W : World) (g : Nat) (sv : Value) (cs : List Nat) (f a : Nat) (w : World) (hs : Sc w g sv cs f a) (hgl : Gl W w g) :
    Calls Tryz.prog 102 #[.pointer (some ⟨g, 0, none⟩)] w (WPost (chrW cs f a) g sv cs f w) := by
  have HS := Lib.hid hs
  have HG := Lib.hid hgl; clear hgl
  have hlt := hs.lt
  have hlen := hs.small
  have hle := hs.le
  have HTB := Lib.hid (TB.new w)
  have hb0 := below1 w (.cells #[.int .i64 0, .string ⟨#[]⟩, .int .i64 0, .string ⟨#[]⟩, .bool false, .slice none 0 0, .slice none 0 0, .int .i64 0, .int .i64 0] 61)
  have HB0 := Lib.hid hb0
  have HS0 := Lib.hid (hs.below hb0)
  have hlt0 := (hs.below hb0).lt
  have HG0 := Lib.hid (HG.out.below hb0)
  have hsz0 : (w.alloc (.cells #[.int .i64 0, .string ⟨#[]⟩, .int .i64 0, .string ⟨#[]⟩, .bool false, .slice none 0 0, .slice none 0 0, .int .i64 0, .int .i64 0] 61)).heap.size = w.heap.size + 1 := by simp
  obtain ⟨c0, c1, c2, f1, f2⟩ := hs.box.facts
  clear hs hb0
  go_enter Tryz.func102, Tryz.ntmps102
  go_wp2_with fail
  clear c0 c1 c2 f1 f2
  generalize hw0 : w.alloc (.cells #[.int .i64 0, .string ⟨#[]⟩, .int .i64 0, .string ⟨#[]⟩, .bool false, .slice none 0 0, .slice none 0 0, .int .i64 0, .int .i64 0] 61) = w0 at *
  refine (next_any g sv cs f a _ HS0.out).mono ?_
  rintro e w1 (⟨hlt1, rfl, hs1, hk1⟩ | ⟨rfl, rfl, hk1⟩)
  rotate_left
  · exact ⟨rfl, WPost.no (by unfold chrW; rw [chrA_out (Nat.le_refl _)]; rfl) (Ks.two HB0.out hk1 (Ks.refl w.heap.size _) (Nat.le_refl _) hlt)⟩
  have HS1 := Lib.hid hs1
  have HK1 := Lib.hid hk1
  clear hs1 hk1
  go_wp2_with fail
  refine (until_ends enN ends_enN g sv cs f (a + 1) _ HS1.out).mono ?_
  rintro e w2 ⟨rfl, hs2, hk2⟩
  have HC := Lib.hid (chrA_at (cs := cs) hlt1)
  have hk1a : a ≤ til enN cs (a + 1) := by have := @til_ge' enN cs (a + 1); omega
  have hk1b : til enN cs (a + 1) ≤ cs.length := til_le (by omega)
  generalize til enN cs (a + 1) = k at *
  obtain ⟨ao, cap, rfl, hcap, hcell⟩ := hs2.open'
  obtain ⟨b, off, rfl, _⟩ := hcell a hlt1
  obtain ⟨c0, c1, c2, f1, f2⟩ := hs2.box.facts
  have HS2 := Lib.hid hs2
  have HK2 := Lib.hid (HK1.out.trans hk2)
  clear hs2 hk2 hcell
  have hca : ¬ cap = a := by omega
  have h1 : (k : Int) ≤ (cap : Int) := by omega
  have h2 : (a : Int) ≤ (k : Int) := by omega
  go_wp2_with fail
  have HSd := Lib.hid (HS2.out.below ((Below.refl w2.heap.size w2).drew))
  obtain ⟨D, hD⟩ : ∃ D, D = encL (cutN cs a k) := ⟨_, rfl⟩
  have HBY : Hid (By D) := Lib.hid (by rw [hD]; exact encL_byQ (cutN_sc HS2.out.sc))
  have HENC : Hid (Calls Tryz.prog 120 #[.slice (some ⟨b, off + a, none⟩) (k - a) (cap - a)] w2.drew fun e w' => e = .returned (.string (mkB D)) ∧ Below w2.heap.size w2 w') := Lib.hid
    ((encoded_any _ (cutN cs a k) _ (cutN_sl HSd.out.txt hk1a hk1b) (by rw [cutN_len hk1a hk1b]; omega) (cutN_sc HSd.out.sc)).mono fun e w' h => ⟨by rw [h.1, hD], ((Below.refl w2.heap.size w2).drew).trans h.2⟩)
  have HNAM : Hid (∀ Wx, Gl W Wx g → Calls Tryz.prog 121 #[.string (mkB D)] Wx (ChPost (namedA D) Wx)) := Lib.hid fun Wx hgx => by
    have := named_any (mkB D) Wx hgx.t2 hgx.wd
    rwa [byt_mk HBY.out] at this
  rw [← hD] at HC
  clear hD HSd
  go_region_held3 (fun W' => W'.cell? ⟨g, 0, none⟩ = some (.slice (some ⟨b, off, none⟩) cs.length cap) ∧ W'.cell? ⟨g, 2, none⟩ = some (.int .i64 (k : Nat)))
    ((first | exact ⟨c0, c2⟩ | exact ⟨d0, d2⟩ | exact ⟨p0, p2⟩))
    (first
      | (go_at_call 120; refine HENC.out.mono ?_; rintro e w3 ⟨rfl, hb3⟩; (have HS3 := Lib.hid (HS2.out.below hb3)); (have HK3 := Lib.hid (HK2.out.below hlt0 hb3)); clear hb3; (have hf3 := HS3.out.box.facts); obtain ⟨d0, _, d2, _, _⟩ := hf3)
      | (go_at_call 121; refine (HNAM.out _ (HG0.out.ks HK3.out)).mono ?_; rintro e w4 ⟨rfl, hb4⟩; (have HS4 := Lib.hid (HS3.out.below hb4)); (have HK4 := Lib.hid (HK3.out.below hlt0 hb4)); clear hb4; (have hf4 := HS4.out.box.facts); obtain ⟨p0, p1, p2, pf1, pf2⟩ := hf4))
  clear c0 c1 c2 f1 f2 hca h1 h2
  cases hnm : namedA D with
  | none =>
    rw [hnm] at HC
    go_wp2_with fail
    exact ⟨rfl, WPost.no (by unfold chrW; rw [HC.out]; rfl) (Ks.two HB0.out HK4.out (Ks.refl w.heap.size _) (Nat.le_refl _) hlt)⟩
  | some c =>
    have HCQ := Lib.hid (namedA_sc HBY.out hnm)
    rw [hnm] at HC
    clear p0 p1 p2 pf1 pf2
    go_wp2_with fail
    have hb5 := below1 w4 (.cells #[.int .i64 ((c : Nat) : Int)] 3 (0, 0))
    refine (encoded_any _ [c] _ (one_sl w4 c) (by simp) (by intro x hx; rw [List.mem_singleton] at hx; rw [hx]; exact HCQ.out)).mono ?_
    rintro e w5 ⟨rfl, hb6⟩
    have e1 : encL [c] = encN c := by simp [encL]
    rw [e1]
    have HS5 := Lib.hid ((HS4.out.below hb5).below hb6)
    have HK5 := Lib.hid ((HK4.out.below hlt0 hb5).below hlt0 hb6)
    clear hb5 hb6 e1
    go_wp2_with fail
    refine (leaf_any g _ cs f k _ HS5.out 6 (mkB (encN c)) false none 0 0).mono ?_
    rintro e w6 ⟨rfl, hb7⟩
    have HS6 := Lib.hid (HS5.out.below hb7)
    have HK6 := Lib.hid (HK5.out.below hlt0 hb7)
    have HT6 := Lib.hid (HTB.out.ks HK6.out (by omega))
    clear hb7
    obtain ⟨c0, c1, c2, c3, c4, c5, c6, c7, c8, f0, f1, f2, f3, f4, f5, f6, f7, f8⟩ := HT6.out.facts
    go_wp2_with fail
    obtain ⟨hrow, hk⟩ := HT6.out.fill (.int .i64 7) (.string ⟨#[]⟩) (.int .i64 6) (.string (mkB (encN c))) (.bool false) (.slice none 0 0) (.slice none 0 0) (.int .i64 (f : Nat)) (.int .i64 (f : Nat))
    have HKF := Lib.hid (Ks.two HB0.out HK6.out hk (Nat.le_refl _) hlt)
    have HSF := Lib.hid (HS6.out.ks2 hk (by omega) (fun he => by have := HS.out.svb (by omega) _ he; omega))
    clear c0 c1 c2 c3 c4 c5 c6 c7 c8 f0 f1 f2 f3 f4 f5 f6 f7 f8
    generalize World.setCell _ ⟨w.heap.size, 8, none⟩ (.int .i64 (f : Nat)) = W' at *
    obtain ⟨c0, c1, c2, c3, c4, c5, c6, c7, c8⟩ := row9 hrow
    refine bodyPost_ret (v := .agg #[.int .i64 7, .string ⟨#[]⟩, .int .i64 6, .string (mkB (encN c)), .bool false, .slice none 0 0, .slice none 0 0, .int .i64 (f : Nat), .int .i64 (f : Nat)]) (by simp [results, Tryz.results102, go_sem, c0, c1, c2, c3, c4, c5, c6, c7, c8]) rfl ?_
    exact WPost.yes (x := leafW ⟨6, encN c, false, []⟩ f) (j := k) (lv := .slice none 0 0) (by unfold chrW; rw [HC.out]; rfl) rfl HKF.out (Sl.nil _ _) HSF.out
end Go.Proofs.YtpahfhjgcflifaaGreatDoor
namespace Go.Proofs.YtpahfhjgcflifaaGreatDoor
open Go.RowKit

/-- A word that begins with nothing that tells its kind. -/
noncomputable def atmW (cs : List Nat) (f : Nat) : Option (Wd × Nat) :=
  if encL (cutN cs f (til enN cs f)) = [46] then some (dotW f, til enN cs f) else (atmA (encL (cutN cs f (til enN cs f)))).map fun d => (leafW d f, til enN cs f)

set_option maxRecDepth 100000 in
set_option maxHeartbeats 4000000 in
theorem atom_any (W : World) (g : Nat) (sv : Value) (cs : List Nat) (f : Nat) (w : World) (hs : Sc w g sv cs f f) (hgl : Gl W w g) (hf : f < cs.length) :
    Calls Tryz.prog 103 #[.pointer (some ⟨g, 0, none⟩)] w (WPost (atmW cs f) g sv cs f w) := by
  have HS := Lib.hid hs
  have HG := Lib.hid hgl; clear hgl
  have hlt := hs.lt
  have hlen := hs.small
  have HTB := Lib.hid (TB.new w)
  have hb0 := below1 w (.cells #[.int .i64 0, .string ⟨#[]⟩, .int .i64 0, .string ⟨#[]⟩, .bool false, .slice none 0 0, .slice none 0 0, .int .i64 0, .int .i64 0] 61)
  have HB0 := Lib.hid hb0
  have HS0 := Lib.hid (hs.below hb0)
  have hlt0 := (hs.below hb0).lt
  have HG0 := Lib.hid (HG.out.below hb0)
  have hsz0 : (w.alloc (.cells #[.int .i64 0, .string ⟨#[]⟩, .int .i64 0, .string ⟨#[]⟩, .bool false, .slice none 0 0, .slice none 0 0, .int .i64 0, .int .i64 0] 61)).heap.size = w.heap.size + 1 := by simp
  clear hs hb0
  go_enter Tryz.func103, Tryz.ntmps103
  go_wp2_with fail
  generalize hw0 : w.alloc (.cells #[.int .i64 0, .string ⟨#[]⟩, .int .i64 0, .string ⟨#[]⟩, .bool false, .slice none 0 0, .slice none 0 0, .int .i64 0, .int .i64 0] 61) = w0 at *
  refine (until_ends enN ends_enN g sv cs f f _ HS0.out).mono ?_
  rintro e w2 ⟨rfl, hs2, hk2⟩
  have hkf : f ≤ til enN cs f := til_ge'
  have hkl : til enN cs f ≤ cs.length := til_le (by omega)
  have hdef : atmW cs f = if encL (cutN cs f (til enN cs f)) = [46] then some (dotW f, til enN cs f) else (atmA (encL (cutN cs f (til enN cs f)))).map fun d => (leafW d f, til enN cs f) := rfl
  generalize til enN cs f = k at *
  obtain ⟨ao, cap, rfl, hcap, hcell⟩ := hs2.open'
  obtain ⟨b, off, rfl, _⟩ := hcell f hf
  obtain ⟨c0, c1, c2, f1, f2⟩ := hs2.box.facts
  have HS2 := Lib.hid hs2
  have HK2 := Lib.hid hk2
  clear hs2 hk2 hcell
  have hca : ¬ cap = f := by omega
  have h1 : (k : Int) ≤ (cap : Int) := by omega
  have h2 : (f : Int) ≤ (k : Int) := by omega
  have HSd := Lib.hid (HS2.out.below ((Below.refl w2.heap.size w2).drew))
  have hl := cutN_len (cs := cs) hkf hkl
  have hDs : (encL (cutN cs f k)).length ≤ 8000000 := by have := encL_len (cutN cs f k); omega
  obtain ⟨D, hD⟩ : ∃ D, D = encL (cutN cs f k) := ⟨_, rfl⟩
  have HBY : Hid (By D) := Lib.hid (by rw [hD]; exact encL_byQ (cutN_sc HS2.out.sc))
  have HENC : Hid (Calls Tryz.prog 120 #[.slice (some ⟨b, off + f, none⟩) (k - f) (cap - f)] w2.drew fun e w' => e = .returned (.string (mkB D)) ∧ Below w2.heap.size w2 w') := Lib.hid
    ((encoded_any _ (cutN cs f k) _ (cutN_sl HSd.out.txt hkf hkl) (by omega) (cutN_sc HSd.out.sc)).mono fun e w' h => ⟨by rw [h.1, hD], ((Below.refl w2.heap.size w2).drew).trans h.2⟩)
  rw [← hD] at hDs hdef
  have HDEF := Lib.hid hdef
  have HDS := Lib.hid hDs
  clear hD HSd hl hdef hDs
  go_wp2_with fail
  go_region_held3 (fun W' => W'.cell? ⟨g, 0, none⟩ = some (.slice (some ⟨b, off, none⟩) cs.length cap) ∧ W'.cell? ⟨g, 1, none⟩ = some (.int .i64 (f : Nat)) ∧ W'.cell? ⟨g, 2, none⟩ = some (.int .i64 (k : Nat)))
    ((first | exact ⟨c0, c1, c2⟩ | exact ⟨d0, d1, d2⟩))
    (first
      | (go_at_call 120; refine HENC.out.mono ?_; rintro e w3 ⟨rfl, hb3⟩; (have HS3 := Lib.hid (HS2.out.below hb3)); (have HK3 := Lib.hid (HK2.out.below hlt0 hb3)); clear hb3; (have hf3 := HS3.out.box.facts); obtain ⟨d0, d1, d2, df1, df2⟩ := hf3))
  clear c0 c1 c2 f1 f2 hca h1 h2 HENC
  have hbm := byt_mk HBY.out
  cases hdot : ((mkB D).toList == [46]) with
  | true =>
    have hD : D = [46] := by rw [lit_iff, hbm] at hdot; simp at hdot; exact hdot
    have HA := Lib.hid (HDEF.out.trans (if_pos hD))
    have HT3 := Lib.hid (HTB.out.ks HK3.out (by omega))
    obtain ⟨c0, c1, c2, c3, c4, c5, c6, c7, c8, f0, f1, f2, f3, f4, f5, f6, f7, f8⟩ := HT3.out.facts
    clear hD
    go_wp2_with fail
    obtain ⟨hrow, hk⟩ := HT3.out.fill (.int .i64 4) (.string ⟨#[]⟩) (.int .i64 0) (.string ⟨#[]⟩) (.bool false) (.slice none 0 0) (.slice none 0 0) (.int .i64 0) (.int .i64 (f : Nat))
    have HKF := Lib.hid (Ks.two HB0.out HK3.out hk (Nat.le_refl _) hlt)
    have HSF := Lib.hid (HS3.out.ks2 hk (by omega) (fun he => by have := HS.out.svb (by omega) _ he; omega))
    clear c0 c1 c2 c3 c4 c5 c6 c7 c8 f0 f1 f2 f3 f4 f5 f6 f7 f8 d0 d1 d2 df1 df2
    generalize World.setCell _ ⟨w.heap.size, 8, none⟩ (.int .i64 (f : Nat)) = W' at *
    obtain ⟨c0, c1, c2, c3, c4, c5, c6, c7, c8⟩ := row9 hrow
    refine bodyPost_ret (v := .agg #[.int .i64 4, .string ⟨#[]⟩, .int .i64 0, .string ⟨#[]⟩, .bool false, .slice none 0 0, .slice none 0 0, .int .i64 0, .int .i64 (f : Nat)]) (by simp [results, Tryz.results103, go_sem, c0, c1, c2, c3, c4, c5, c6, c7, c8]) rfl ?_
    exact WPost.yes (x := dotW f) (j := k) (lv := .slice none 0 0) HA.out rfl HKF.out (Sl.nil _ _) HSF.out
  | false =>
    have hD : ¬ D = [46] := by rw [lit_iff, hbm] at hdot; simp at hdot; exact hdot
    have HA := Lib.hid (HDEF.out.trans (if_neg hD))
    have HBM := Lib.hid hbm
    clear hD hbm d0 d1 d2 df1 df2
    go_wp2_with fail
    refine (tatom_any (mkB D) _ (HG0.out.ks HK3.out).t2.utf (by rw [mkB_size]; have := HDS.out; omega)).mono ?_
    rintro e w4 ⟨lv, rfl, hlv, hb4⟩
    rw [HBM.out] at hlv ⊢
    have HS4 := Lib.hid (HS3.out.below hb4)
    have HK4 := Lib.hid (HK3.out.below hlt0 hb4)
    clear hb4
    cases hat : atmA D with
    | none =>
      rw [hat] at hlv
      have HA2 : Hid (atmW cs f = none) := Lib.hid (by rw [HA.out, hat]; rfl)
      have hlv2 : Sl .u32 w4 lv [] := hlv
      obtain ⟨_, av, cv, rfl, _, _⟩ := hlv2
      obtain ⟨d0, d1, d2, df1, df2⟩ := HS4.out.box.facts
      have hg4 := HS4.out.lt
      clear hlv hat
      simp only [Option.getD_none, Option.isSome_none, dtV, zD]
      go_wp2_with fail
      refine ⟨rfl, WPost.no HA2.out (Ks.two HB0.out (w' := w4) HK4.out ?_ (Nat.le_refl _) hlt)⟩
      refine Ks.of_below (by have := HK4.out.size; omega) ?_
      repeat (first | exact Below.refl _ _ | refine Below.setCell ?_ (by simp) _ | refine Below.alloc ?_ (by simp) _ | refine Below.drew ?_ | refine below_drewN ?_ _)
    | some d =>
      rw [hat] at hlv
      have HA2 : Hid (atmW cs f = some (leafW d f, k)) := Lib.hid (by rw [HA.out, hat]; rfl)
      have hlv2 : Sl .u32 w4 lv d.r := hlv
      have HLV := Lib.hid hlv2
      obtain ⟨_, av, cv, rfl, _, _⟩ := hlv2
      clear hlv hat
      obtain ⟨dk, dt, dn, dr⟩ := d
      simp only [Option.getD_some, Option.isSome_some, dtV]
      go_wp2_with fail
      have hb5 := below1 w4 (.cells #[.int .i64 (dk : Nat), .string (mkB dt), .bool dn, .slice av dr.length cv, .slice none 0 0, .int .i64 0] 27)
      refine (leaf_any g _ cs f k _ (HS4.out.below hb5) dk (mkB dt) dn av dr.length cv).mono ?_
      rintro e w5 ⟨rfl, hb6⟩
      have HS5 := Lib.hid ((HS4.out.below hb5).below hb6)
      have HK5 := Lib.hid ((HK4.out.below hlt0 hb5).below hlt0 hb6)
      have HL5 := Lib.hid ((HLV.out.below hb5).below hb6)
      have HT5 := Lib.hid (HTB.out.ks HK5.out (by omega))
      clear hb5 hb6
      obtain ⟨c0, c1, c2, c3, c4, c5, c6, c7, c8, f0, f1, f2, f3, f4, f5, f6, f7, f8⟩ := HT5.out.facts
      go_wp2_with fail
      obtain ⟨hrow, hk⟩ := HT5.out.fill (.int .i64 7) (.string ⟨#[]⟩) (.int .i64 (dk : Nat)) (.string (mkB dt)) (.bool dn) (.slice av dr.length cv) (.slice none 0 0) (.int .i64 (f : Nat)) (.int .i64 (f : Nat))
      have HKF := Lib.hid (Ks.two HB0.out HK5.out hk (Nat.le_refl _) hlt)
      have HSF := Lib.hid (HS5.out.ks2 hk (by omega) (fun he => by have := HS.out.svb (by omega) _ he; omega))
      have HLF := Lib.hid (HL5.out.u32s (U32S.ks hk HT5.out.noU))
      clear c0 c1 c2 c3 c4 c5 c6 c7 c8 f0 f1 f2 f3 f4 f5 f6 f7 f8
      generalize World.setCell _ ⟨w.heap.size, 8, none⟩ (.int .i64 (f : Nat)) = W' at *
      obtain ⟨c0, c1, c2, c3, c4, c5, c6, c7, c8⟩ := row9 hrow
      refine bodyPost_ret (v := .agg #[.int .i64 7, .string ⟨#[]⟩, .int .i64 (dk : Nat), .string (mkB dt), .bool dn, .slice av dr.length cv, .slice none 0 0, .int .i64 (f : Nat), .int .i64 (f : Nat)]) (by simp [results, Tryz.results103, go_sem, c0, c1, c2, c3, c4, c5, c6, c7, c8]) rfl ?_
      exact WPost.yes (x := leafW ⟨dk, dt, dn, dr⟩ f) (j := k) (lv := .slice av dr.length cv) HA2.out rfl HKF.out HLF.out HSF.out
end Go.Proofs.YtpahfhjgcflifaaGreatDoor
namespace Go.Proofs.YtpahfhjgcflifaaGreatDoor
open Go.RowKit

/-- What a string's reading comes to. -/
def quoW (cs : List Nat) (f i : Nat) (acc : List Nat) : Option (Wd × Nat) := (quoA cs i acc).map fun p => (leafW ⟨5, encL p.1, false, []⟩ f, p.2)

set_option maxRecDepth 100000 in
set_option maxHeartbeats 4000000 in
theorem quoted_any (W : World) (g : Nat) (sv : Value) (cs : List Nat) (f a : Nat) (w : World) (hs : Sc w g sv cs f a) (hgl : Gl W w g) :
    Calls Tryz.prog 101 #[.pointer (some ⟨g, 0, none⟩)] w (WPost (quoW cs f a []) g sv cs f w) := by
  obtain ⟨i0, hi, hz0, hz1, hz2⟩ := info_parts infoInt
  have HS := Lib.hid hs
  have HG := Lib.hid hgl; clear hgl
  have hlt := hs.lt
  have hlen := hs.small
  have HTB := Lib.hid (TB.new w)
  have hb0 := below1 w (.cells #[.int .i64 0, .string ⟨#[]⟩, .int .i64 0, .string ⟨#[]⟩, .bool false, .slice none 0 0, .slice none 0 0, .int .i64 0, .int .i64 0] 61)
  have HB0 := Lib.hid hb0
  have HS0 := Lib.hid (hs.below hb0)
  have hlt0 := (hs.below hb0).lt
  have HG0 := Lib.hid (HG.out.below hb0)
  have hsz0 : (w.alloc (.cells #[.int .i64 0, .string ⟨#[]⟩, .int .i64 0, .string ⟨#[]⟩, .bool false, .slice none 0 0, .slice none 0 0, .int .i64 0, .int .i64 0] 61)).heap.size = w.heap.size + 1 := by simp
  clear hs hb0
  go_enter Tryz.func101, Tryz.ntmps101
  go_wp2_with fail
  generalize hw0 : w.alloc (.cells #[.int .i64 0, .string ⟨#[]⟩, .int .i64 0, .string ⟨#[]⟩, .bool false, .slice none 0 0, .slice none 0 0, .int .i64 0, .int .i64 0] 61) = w0 at *
  refine (next_any g sv cs f a _ HS0.out).mono ?_
  rintro e w1 (⟨hlt1, rfl, hs1, hk1⟩ | ⟨rfl, rfl, hk1⟩)
  rotate_left
  · exact ⟨rfl, WPost.no (by unfold quoW; rw [quoA_out (Nat.le_refl _)]; rfl) (Ks.two HB0.out hk1 (Ks.refl w.heap.size _) (Nat.le_refl _) hlt)⟩
  have HS1 := Lib.hid hs1
  have HK1 := Lib.hid hk1
  clear hs1 hk1
  go_wp2_with fail
  go_loopg [3, 4] (cs.length - a) (fun gk v c wr => ∃ i acc, i < cs.length ∧ c = .int .i64 ((limb cs i : Nat) : Int) ∧ Sc wr g sv cs f (i + 1) ∧ quoA cs i acc = quoA cs a [] ∧ acc.length ≤ 4096 ∧ (∀ x ∈ acc, ScQ x) ∧ wr.ownsRow w0.heap.size 3 1 v acc.length (acc.map fun (x : Nat) => Value.int .i64 (x : Int)) ∧ Ks g w0 wr ∧ cs.length - i ≤ gk)
  case atStart => exact ⟨a, [], hlt1, rfl, HS1.out, rfl, by simp, by simp, World.ownsRow_nil _ _ _ _, HK1.out, Nat.le_refl _⟩
  case round =>
    obtain ⟨i, acc, hil, rfl, hsc, hq, hacc, haq, hown, hks, hm⟩ := hrel
    have HQ := Lib.hid hq; clear hq
    have HAQ := Lib.hid haq; clear haq
    have HK := Lib.hid hks; clear hks
    have HSC := Lib.hid hsc; clear hsc
    have HCQ : Hid (ScQ (limb cs i)) := Lib.hid (HSC.out.sc _ (by rw [limb_lt hil]; exact List.getElem_mem hil))
    by_cases h34 : limb cs i = 34
    · have HQ2 := Lib.hid (quoA_quote (acc := acc) hil h34)
      have hq34 : (((limb cs i : Nat) : Int) != 34) = false := by rw [h34]; rfl
      have hsl := owns_sl hown
      clear hown h34
      go_wp2_with fail
      refine (encoded_any _ acc _ hsl (by omega) HAQ.out).mono ?_
      rintro e w2 ⟨rfl, hb2⟩
      have HS2 := Lib.hid (HSC.out.below hb2)
      have HK2 := Lib.hid (HK.out.below hlt0 hb2)
      clear hb2 hsl
      go_wp2_with fail
      refine (leaf_any g sv cs f (i + 1) _ HS2.out 5 (mkB (encL acc)) false none 0 0).mono ?_
      rintro e w3 ⟨rfl, hb3⟩
      have HS3 := Lib.hid (HS2.out.below hb3)
      have HK3 := Lib.hid (HK2.out.below hlt0 hb3)
      have HT3 := Lib.hid (HTB.out.ks HK3.out (by omega))
      clear hb3
      obtain ⟨c0, c1, c2, c3, c4, c5, c6, c7, c8, f0, f1, f2, f3, f4, f5, f6, f7, f8⟩ := HT3.out.facts
      go_wp2_with fail
      obtain ⟨hrow, hk⟩ := HT3.out.fill (.int .i64 7) (.string ⟨#[]⟩) (.int .i64 5) (.string (mkB (encL acc))) (.bool false) (.slice none 0 0) (.slice none 0 0) (.int .i64 (f : Nat)) (.int .i64 (f : Nat))
      have HKF := Lib.hid (Ks.two HB0.out HK3.out hk (Nat.le_refl _) hlt)
      have hsvb : sv.ownBlock ≠ some w.heap.size := fun he => by have := HS.out.svb (by omega) _ he; omega
      have HSF := Lib.hid (HS3.out.ks2 hk (by omega) hsvb)
      clear c0 c1 c2 c3 c4 c5 c6 c7 c8 f0 f1 f2 f3 f4 f5 f6 f7 f8
      generalize World.setCell _ ⟨w.heap.size, 8, none⟩ (.int .i64 (f : Nat)) = W' at *
      obtain ⟨c0, c1, c2, c3, c4, c5, c6, c7, c8⟩ := row9 hrow
      refine bodyPost_ret (v := .agg #[.int .i64 7, .string ⟨#[]⟩, .int .i64 5, .string (mkB (encL acc)), .bool false, .slice none 0 0, .slice none 0 0, .int .i64 (f : Nat), .int .i64 (f : Nat)]) (by simp [results, Tryz.results101, go_sem, c0, c1, c2, c3, c4, c5, c6, c7, c8]) rfl ?_
      exact WPost.yes (x := leafW ⟨5, encL acc, false, []⟩ f) (j := i + 1) (lv := .slice none 0 0) (by unfold quoW; rw [← HQ.out, HQ2.out]; rfl) rfl HKF.out (Sl.nil _ _) HSF.out
    · have hq34 : (((limb cs i : Nat) : Int) != 34) = true := by rw [bne_iff_ne]; omega
      by_cases h92 : limb cs i = 92
      · have hq92 : (((limb cs i : Nat) : Int) == 92) = true := by rw [h92]; rfl
        have hnx : nxA cs i = escA cs (i + 1) := by unfold nxA; rw [if_pos h92]
        have hown0 := hown
        obtain ⟨av0, cv0, hve0⟩ := owns_slice hown
        clear hown h92
        go_wp2_with fail
        refine (escape_any W g sv cs f (i + 1) _ HSC.out (HG0.out.ks HK.out)).mono ?_
        rintro e w2 ⟨hkx, ⟨c', j, hn, rfl, hsx⟩ | ⟨hn, rfl⟩⟩
        · have HNX := Lib.hid (hnx.trans hn)
          clear hn hnx hve0
          have HOW := Lib.hid (owns_ks hown0 hkx hlt0)
          have HKx := Lib.hid (HK.out.trans hkx)
          have HSx := Lib.hid hsx
          have HCx : Hid (ScQ c') := Lib.hid (nxA_sc HSC.out.sc hil HNX.out)
          clear hkx hsx
          by_cases h4096 : acc.length = 4096
          · have HQL := Lib.hid (quoA_long hil h34 HNX.out h4096)
            obtain ⟨c0, c1, c2, f1, f2⟩ := HSx.out.box.facts
            have hql : ((acc.length : Int) == 4096) = true := by rw [h4096]; rfl
            obtain ⟨av, cv, rfl⟩ := owns_slice HOW.out
            clear h4096 h34
            go_wp2_with fail
            exact ⟨rfl, WPost.no (by unfold quoW; rw [← HQ.out, HQL.out]; rfl) (Ks.two HB0.out HKx.out (Ks.refl w.heap.size _) (Nat.le_refl _) hlt)⟩
          · have HQS := Lib.hid (quoA_step hil h34 HNX.out h4096)
            have hql : ((acc.length : Int) == 4096) = false := by rw [beq_eq_false_iff_ne]; omega
            have hgtj := nxA_gt hil HNX.out
            have hacc2 : acc.length + 1 ≤ 4096 := by omega
            have hw00 : w0.heap.size ≤ w2.heap.size := HKx.out.size
            obtain ⟨av, cv, hve⟩ := owns_slice HOW.out
            subst hve
            clear h4096 h34
            go_wp2_with (at_builtin; go_loud (refine wpList_append_own _ rfl _ _ 54 rfl w0.heap.size 3 i0 (.int .i64 0) 1 8 Tryz.underlying54 hi hz0 hz1 hz2 rfl (by decide) _ acc.length (acc.map fun (x : Nat) => Value.int .i64 (x : Int)) rfl (HOW.out.alloc _) ⟨w2.heap.size, 0, none⟩ 1 1 [.int .i64 ((c' : Nat) : Int)] rfl (by simp) (cell_one_new _ _ _) (by intro u hu; rw [List.mem_singleton] at hu; subst hu; rfl) (by unfold maxLen; omega) (by omega) (by simp; omega) ?_); intro v' wz hown1 hgrow hnil; clear hnil)
            have hlo := HOW.out.lt
            have hgrow' : World.grownBy (w2.alloc (.cells #[.int .i64 ((c' : Nat) : Int)] 3 (0, 0))) wz (Value.ownBlock (.slice av acc.length cv)) := hgrow
            have HKy := Lib.hid ((HKx.out.alloc hlt0 (.cells #[.int .i64 ((c' : Nat) : Int)] 3 (0, 0))).grown hlt0 hgrow' (fun k hk => (hlo k hk).1))
            have hsvb := HS.out.svb (by omega)
            have HSy := Lib.hid ((HSx.out.alloc (.cells #[.int .i64 ((c' : Nat) : Int)] 3 (0, 0))).grown hgrow' (fun e => by have := (hlo g e).1; omega) (fun b hb e => by have := (hlo b e).1; have := hsvb b hb; omega))
            have e1 : ((acc.map fun (x : Nat) => Value.int .i64 (x : Int)) ++ [.int .i64 ((c' : Nat) : Int)]) = (acc ++ [c']).map fun (x : Nat) => Value.int .i64 (x : Int) := by simp
            have e2 : acc.length + 1 = (acc ++ [c']).length := by simp
            rw [e1, e2] at hown1
            have HOW1 := Lib.hid hown1
            clear hown1 hgrow hgrow' e1 e2 hlo hsvb
            go_wp2_with fail
            refine (next_any g sv cs f j _ HSy.out).mono ?_
            rintro e w5 (⟨hltj, rfl, hs5, hk5⟩ | ⟨rfl, rfl, hk5⟩)
            · have HS5 := Lib.hid hs5
              have HK5 := Lib.hid hk5
              clear hs5 hk5
              go_wp2_with fail
              go_roundg (cs.length - j)
              case measure => omega
              case rel =>
                refine ⟨j, acc ++ [c'], hltj, rfl, HS5.out, by rw [← HQS.out]; exact HQ.out, by simp; omega, fun x hx => ?_, owns_ks HOW1.out HK5.out hlt0, HKy.out.trans HK5.out, Nat.le_refl _⟩
                rcases List.mem_append.1 hx with hx | hx
                · exact HAQ.out x hx
                · rw [List.mem_singleton] at hx; rw [hx]; exact HCx.out
            · exact ⟨rfl, WPost.no (by unfold quoW; rw [← HQ.out, HQS.out, quoA_out (Nat.le_refl _)]; rfl) (Ks.two HB0.out (HKy.out.trans hk5) (Ks.refl w.heap.size _) (Nat.le_refl _) hlt)⟩
        · exact ⟨rfl, WPost.no (by unfold quoW; rw [← HQ.out, quoA_bad hil h34 (hnx.trans hn)]; rfl) (Ks.two HB0.out (HK.out.trans hkx) (Ks.refl w.heap.size _) (Nat.le_refl _) hlt)⟩
      · have hq92 : (((limb cs i : Nat) : Int) == 92) = false := by rw [beq_eq_false_iff_ne]; omega
        have hnx : nxA cs i = some (limb cs i, i + 1) := by unfold nxA; rw [if_neg h92]
        have hown0 := hown
        obtain ⟨av0, cv0, hve0⟩ := owns_slice hown
        have hsx := HSC.out
        have hkx := Ks.refl g wr
        have HNX := Lib.hid hnx
        obtain ⟨j, hj⟩ : ∃ j, j = i + 1 := ⟨_, rfl⟩
        obtain ⟨c', hc'⟩ : ∃ c', c' = limb cs i := ⟨_, rfl⟩
        rw [← hj] at hsx HNX
        rw [← hc'] at HNX hq34 hq92 ⊢
        clear hown h92 hnx hve0 hc' hj
        have HOW := Lib.hid (owns_ks hown0 hkx hlt0)
        have HKx := Lib.hid (HK.out.trans hkx)
        have HSx := Lib.hid hsx
        have HCx : Hid (ScQ c') := Lib.hid (nxA_sc HSC.out.sc hil HNX.out)
        clear hkx hsx
        by_cases h4096 : acc.length = 4096
        · have HQL := Lib.hid (quoA_long hil h34 HNX.out h4096)
          obtain ⟨c0, c1, c2, f1, f2⟩ := HSx.out.box.facts
          have hql : ((acc.length : Int) == 4096) = true := by rw [h4096]; rfl
          obtain ⟨av, cv, rfl⟩ := owns_slice HOW.out
          clear h4096 h34
          go_wp2_with fail
          exact ⟨rfl, WPost.no (by unfold quoW; rw [← HQ.out, HQL.out]; rfl) (Ks.two HB0.out HKx.out (Ks.refl w.heap.size _) (Nat.le_refl _) hlt)⟩
        · have HQS := Lib.hid (quoA_step hil h34 HNX.out h4096)
          have hql : ((acc.length : Int) == 4096) = false := by rw [beq_eq_false_iff_ne]; omega
          have hgtj := nxA_gt hil HNX.out
          have hacc2 : acc.length + 1 ≤ 4096 := by omega
          have hw00 : w0.heap.size ≤ wr.heap.size := HKx.out.size
          obtain ⟨av, cv, hve⟩ := owns_slice HOW.out
          subst hve
          clear h4096 h34
          go_wp2_with (at_builtin; go_loud (refine wpList_append_own _ rfl _ _ 54 rfl w0.heap.size 3 i0 (.int .i64 0) 1 8 Tryz.underlying54 hi hz0 hz1 hz2 rfl (by decide) _ acc.length (acc.map fun (x : Nat) => Value.int .i64 (x : Int)) rfl (HOW.out.alloc _) ⟨wr.heap.size, 0, none⟩ 1 1 [.int .i64 ((c' : Nat) : Int)] rfl (by simp) (cell_one_new _ _ _) (by intro u hu; rw [List.mem_singleton] at hu; subst hu; rfl) (by unfold maxLen; omega) (by omega) (by simp; omega) ?_); intro v' wz hown1 hgrow hnil; clear hnil)
          have hlo := HOW.out.lt
          have hgrow' : World.grownBy (wr.alloc (.cells #[.int .i64 ((c' : Nat) : Int)] 3 (0, 0))) wz (Value.ownBlock (.slice av acc.length cv)) := hgrow
          have HKy := Lib.hid ((HKx.out.alloc hlt0 (.cells #[.int .i64 ((c' : Nat) : Int)] 3 (0, 0))).grown hlt0 hgrow' (fun k hk => (hlo k hk).1))
          have hsvb := HS.out.svb (by omega)
          have HSy := Lib.hid ((HSx.out.alloc (.cells #[.int .i64 ((c' : Nat) : Int)] 3 (0, 0))).grown hgrow' (fun e => by have := (hlo g e).1; omega) (fun b hb e => by have := (hlo b e).1; have := hsvb b hb; omega))
          have e1 : ((acc.map fun (x : Nat) => Value.int .i64 (x : Int)) ++ [.int .i64 ((c' : Nat) : Int)]) = (acc ++ [c']).map fun (x : Nat) => Value.int .i64 (x : Int) := by simp
          have e2 : acc.length + 1 = (acc ++ [c']).length := by simp
          rw [e1, e2] at hown1
          have HOW1 := Lib.hid hown1
          clear hown1 hgrow hgrow' e1 e2 hlo hsvb
          go_wp2_with fail
          refine (next_any g sv cs f j _ HSy.out).mono ?_
          rintro e w5 (⟨hltj, rfl, hs5, hk5⟩ | ⟨rfl, rfl, hk5⟩)
          · have HS5 := Lib.hid hs5
            have HK5 := Lib.hid hk5
            clear hs5 hk5
            go_wp2_with fail
            go_roundg (cs.length - j)
            case measure => omega
            case rel =>
              refine ⟨j, acc ++ [c'], hltj, rfl, HS5.out, by rw [← HQS.out]; exact HQ.out, by simp; omega, fun x hx => ?_, owns_ks HOW1.out HK5.out hlt0, HKy.out.trans HK5.out, Nat.le_refl _⟩
              rcases List.mem_append.1 hx with hx | hx
              · exact HAQ.out x hx
              · rw [List.mem_singleton] at hx; rw [hx]; exact HCx.out
          · exact ⟨rfl, WPost.no (by unfold quoW; rw [← HQ.out, HQS.out, quoA_out (Nat.le_refl _)]; rfl) (Ks.two HB0.out (HKy.out.trans hk5) (Ks.refl w.heap.size _) (Nat.le_refl _) hlt)⟩
end Go.Proofs.YtpahfhjgcflifaaGreatDoor
namespace Go.Proofs.YtpahfhjgcflifaaGreatDoor
open Go.RowKit

theorem wrdA_mark {cs : List Nat} {i k : Nat} (h : markA cs i = some k) : wrdA cs i = some (markW k i, i + (mText k).length) := by unfold wrdA; rw [h]
theorem wrdA_quo {cs : List Nat} {i : Nat} (h : markA cs i = none) (h1 : limb cs i = 34) : wrdA cs i = quoW cs i (i + 1) [] := by unfold wrdA; rw [h]; show (if _ then _ else _) = _; rw [if_pos h1]; rfl
theorem wrdA_chr {cs : List Nat} {i : Nat} (h : markA cs i = none) (h1 : ¬ limb cs i = 34) (h2 : pfx [35, 92] cs i = true) : wrdA cs i = chrW cs i (i + 2) := by
  unfold wrdA; rw [h]; show (if _ then _ else if _ then _ else _) = _; rw [if_neg h1, if_pos h2]; rfl
theorem wrdA_atm {cs : List Nat} {i : Nat} (h : markA cs i = none) (h1 : ¬ limb cs i = 34) (h2 : pfx [35, 92] cs i = false) : wrdA cs i = atmW cs i := by
  unfold wrdA; rw [h]; show (if _ then _ else if _ then _ else _) = _; rw [if_neg h1, if_neg (by simp [h2])]; rfl
theorem mText_all : ∀ k : Fin 12, (mText k.val).length ≤ 3 ∧ (mText k.val).all (fun x => decide (x < 256)) = true := by decide
theorem mText_out {k : Nat} (h : ¬ k < 12) : mText k = [] := by unfold mText; rw [List.getD_eq_getElem?_getD, List.getElem?_eq_none (by simp [mtab]; omega)]; rfl
theorem mText_len (k : Nat) : (mText k).length ≤ 3 := by
  by_cases h : k < 12
  · exact (mText_all ⟨k, h⟩).1
  · rw [mText_out h]; simp
theorem mText_by (k : Nat) : By (mText k) := by
  by_cases h : k < 12
  · have ha := (mText_all ⟨k, h⟩).2
    rw [List.all_eq_true] at ha
    intro i
    by_cases hi : i < (mText k).length
    · rw [limb_lt hi]
      have := ha _ (List.getElem_mem hi)
      simpa using this
    · rw [limb_out (by omega)]; omega
  · rw [mText_out h]; exact By.nil
theorem mkB_at {l : List Nat} (h : By l) (j : Nat) (hj : j < (mkB l).size) : ((mkB l)[j]'hj).toNat = limb l j := by
  have e := bt_at hj
  rw [← e, ← bt_byt, byt_mk h]
theorem take_mark (k : Nat) (g : Nat) (sv : Value) (cs : List Nat) (f a : Nat) (w : World) (hs : Sc w g sv cs f a) :
    Calls Tryz.prog 100 #[.pointer (some ⟨g, 0, none⟩), .string (mkB (mText k))] w (TakePost (mText k) g sv cs f a w) :=
  take_any (mkB (mText k)) (mText k) (mkB_size _) (by have := mText_len k; omega) (fun j h => mkB_at (mText_by k) j h) g sv cs f a w hs
theorem pfx_one {c : Nat} {cs : List Nat} {i : Nat} (hi : i < cs.length) : pfx [c] cs i = decide (limb cs i = c) := by
  rw [Bool.eq_iff_iff, pfx_iff, decide_eq_true_iff]
  constructor
  · rintro (⟨_, h⟩ | h)
    · exact h 0 (by simp)
    · simp at h
  · intro h
    exact .inl ⟨by simp; omega, fun j hj => by match j, hj with | 0, _ => exact h⟩

/-- The cells of the table of marks. -/
theorem marks_range {w : World} (h : Marks w) : w.rangeAt 2 0 [.string (mkB (mText 0)), .int .i64 ((mKind 0 : Nat) : Int), .string (mkB (mName 0)), .string (mkB (mText 1)), .int .i64 ((mKind 1 : Nat) : Int), .string (mkB (mName 1)), .string (mkB (mText 2)), .int .i64 ((mKind 2 : Nat) : Int), .string (mkB (mName 2)), .string (mkB (mText 3)), .int .i64 ((mKind 3 : Nat) : Int), .string (mkB (mName 3)), .string (mkB (mText 4)), .int .i64 ((mKind 4 : Nat) : Int), .string (mkB (mName 4)), .string (mkB (mText 5)), .int .i64 ((mKind 5 : Nat) : Int), .string (mkB (mName 5)), .string (mkB (mText 6)), .int .i64 ((mKind 6 : Nat) : Int), .string (mkB (mName 6)), .string (mkB (mText 7)), .int .i64 ((mKind 7 : Nat) : Int), .string (mkB (mName 7)), .string (mkB (mText 8)), .int .i64 ((mKind 8 : Nat) : Int), .string (mkB (mName 8)), .string (mkB (mText 9)), .int .i64 ((mKind 9 : Nat) : Int), .string (mkB (mName 9)), .string (mkB (mText 10)), .int .i64 ((mKind 10 : Nat) : Int), .string (mkB (mName 10)), .string (mkB (mText 11)), .int .i64 ((mKind 11 : Nat) : Int), .string (mkB (mName 11))] := by
  intro j v hv
  rw [Nat.zero_add]
  match j, hv with
  | 0, hv => exact (Option.some.inj hv) ▸ (h 0 (by omega)).1
  | 1, hv => exact (Option.some.inj hv) ▸ (h 0 (by omega)).2.1
  | 2, hv => exact (Option.some.inj hv) ▸ (h 0 (by omega)).2.2
  | 3, hv => exact (Option.some.inj hv) ▸ (h 1 (by omega)).1
  | 4, hv => exact (Option.some.inj hv) ▸ (h 1 (by omega)).2.1
  | 5, hv => exact (Option.some.inj hv) ▸ (h 1 (by omega)).2.2
  | 6, hv => exact (Option.some.inj hv) ▸ (h 2 (by omega)).1
  | 7, hv => exact (Option.some.inj hv) ▸ (h 2 (by omega)).2.1
  | 8, hv => exact (Option.some.inj hv) ▸ (h 2 (by omega)).2.2
  | 9, hv => exact (Option.some.inj hv) ▸ (h 3 (by omega)).1
  | 10, hv => exact (Option.some.inj hv) ▸ (h 3 (by omega)).2.1
  | 11, hv => exact (Option.some.inj hv) ▸ (h 3 (by omega)).2.2
  | 12, hv => exact (Option.some.inj hv) ▸ (h 4 (by omega)).1
  | 13, hv => exact (Option.some.inj hv) ▸ (h 4 (by omega)).2.1
  | 14, hv => exact (Option.some.inj hv) ▸ (h 4 (by omega)).2.2
  | 15, hv => exact (Option.some.inj hv) ▸ (h 5 (by omega)).1
  | 16, hv => exact (Option.some.inj hv) ▸ (h 5 (by omega)).2.1
  | 17, hv => exact (Option.some.inj hv) ▸ (h 5 (by omega)).2.2
  | 18, hv => exact (Option.some.inj hv) ▸ (h 6 (by omega)).1
  | 19, hv => exact (Option.some.inj hv) ▸ (h 6 (by omega)).2.1
  | 20, hv => exact (Option.some.inj hv) ▸ (h 6 (by omega)).2.2
  | 21, hv => exact (Option.some.inj hv) ▸ (h 7 (by omega)).1
  | 22, hv => exact (Option.some.inj hv) ▸ (h 7 (by omega)).2.1
  | 23, hv => exact (Option.some.inj hv) ▸ (h 7 (by omega)).2.2
  | 24, hv => exact (Option.some.inj hv) ▸ (h 8 (by omega)).1
  | 25, hv => exact (Option.some.inj hv) ▸ (h 8 (by omega)).2.1
  | 26, hv => exact (Option.some.inj hv) ▸ (h 8 (by omega)).2.2
  | 27, hv => exact (Option.some.inj hv) ▸ (h 9 (by omega)).1
  | 28, hv => exact (Option.some.inj hv) ▸ (h 9 (by omega)).2.1
  | 29, hv => exact (Option.some.inj hv) ▸ (h 9 (by omega)).2.2
  | 30, hv => exact (Option.some.inj hv) ▸ (h 10 (by omega)).1
  | 31, hv => exact (Option.some.inj hv) ▸ (h 10 (by omega)).2.1
  | 32, hv => exact (Option.some.inj hv) ▸ (h 10 (by omega)).2.2
  | 33, hv => exact (Option.some.inj hv) ▸ (h 11 (by omega)).1
  | 34, hv => exact (Option.some.inj hv) ▸ (h 11 (by omega)).2.1
  | 35, hv => exact (Option.some.inj hv) ▸ (h 11 (by omega)).2.2
  | n + 36, hv => exact absurd hv (by simp)

set_option maxRecDepth 100000 in
/-- The k-th mark. -/
theorem mark_at (k : Nat) (w : World) (hk : k < 12) : Sem.run Tryz.prog (Instr.index 140 (.agg #[.string (mkB (mText 0)), .int .i64 ((mKind 0 : Nat) : Int), .string (mkB (mName 0)), .string (mkB (mText 1)), .int .i64 ((mKind 1 : Nat) : Int), .string (mkB (mName 1)), .string (mkB (mText 2)), .int .i64 ((mKind 2 : Nat) : Int), .string (mkB (mName 2)), .string (mkB (mText 3)), .int .i64 ((mKind 3 : Nat) : Int), .string (mkB (mName 3)), .string (mkB (mText 4)), .int .i64 ((mKind 4 : Nat) : Int), .string (mkB (mName 4)), .string (mkB (mText 5)), .int .i64 ((mKind 5 : Nat) : Int), .string (mkB (mName 5)), .string (mkB (mText 6)), .int .i64 ((mKind 6 : Nat) : Int), .string (mkB (mName 6)), .string (mkB (mText 7)), .int .i64 ((mKind 7 : Nat) : Int), .string (mkB (mName 7)), .string (mkB (mText 8)), .int .i64 ((mKind 8 : Nat) : Int), .string (mkB (mName 8)), .string (mkB (mText 9)), .int .i64 ((mKind 9 : Nat) : Int), .string (mkB (mName 9)), .string (mkB (mText 10)), .int .i64 ((mKind 10 : Nat) : Int), .string (mkB (mName 10)), .string (mkB (mText 11)), .int .i64 ((mKind 11 : Nat) : Int), .string (mkB (mName 11))]) (.int .i64 ((k : Nat) : Int))) w = .ok (.agg #[.string (mkB (mText k)), .int .i64 ((mKind k : Nat) : Int), .string (mkB (mName k))]) w := by
  have : k = 0 ∨ k = 1 ∨ k = 2 ∨ k = 3 ∨ k = 4 ∨ k = 5 ∨ k = 6 ∨ k = 7 ∨ k = 8 ∨ k = 9 ∨ k = 10 ∨ k = 11 := by omega
  rcases this with rfl | rfl | rfl | rfl | rfl | rfl | rfl | rfl | rfl | rfl | rfl | rfl <;> (first | rfl | (show _ = _; kernel_rfl))

set_option maxRecDepth 100000 in
set_option maxHeartbeats 8000000 in
theorem word_any (W : World) (g : Nat) (sv : Value) (cs : List Nat) (f0 i : Nat) (w : World) (hs : Sc w g sv cs f0 i) (hgl : Gl W w g) (hil : i < cs.length) :
    Calls Tryz.prog 80 #[.pointer (some ⟨g, 0, none⟩)] w (WPost (wrdA cs i) g sv cs i w) := by
  have HS := Lib.hid hs
  have HG := Lib.hid hgl; clear hgl
  have hlt := hs.lt
  obtain ⟨c0, c1, c2, f1, f2⟩ := hs.box.facts
  have hgm : ¬ g = 2 := by
    intro e
    have h0 := (HG.out.marks 0 (by omega)).1
    have h1 := World.block_lt_of_cell? W _ h0
    have h2 := HG.out.le
    simp only at h1
    omega
  have hs1 := (hs.setFrom i rfl).alloc (.cells #[.int .i64 0, .string ⟨#[]⟩, .int .i64 0, .string ⟨#[]⟩, .bool false, .slice none 0 0, .slice none 0 0, .int .i64 0, .int .i64 0] 61)
  have hk1 := ((Ks.refl g w).set 1 (.int .i64 (i : Nat))).alloc hlt (.cells #[.int .i64 0, .string ⟨#[]⟩, .int .i64 0, .string ⟨#[]⟩, .bool false, .slice none 0 0, .slice none 0 0, .int .i64 0, .int .i64 0] 61)
  have ht1 := TB.new (w.setCell ⟨g, 1, none⟩ (.int .i64 (i : Nat)))
  have hsz : (w.setCell ⟨g, 1, none⟩ (.int .i64 (i : Nat))).heap.size = w.heap.size := by simp
  rw [hsz] at ht1
  have hsz1 : ((w.setCell ⟨g, 1, none⟩ (.int .i64 (i : Nat))).alloc (.cells #[.int .i64 0, .string ⟨#[]⟩, .int .i64 0, .string ⟨#[]⟩, .bool false, .slice none 0 0, .slice none 0 0, .int .i64 0, .int .i64 0] 61)).heap.size = w.heap.size + 1 := by simp
  have HS1 := Lib.hid hs1
  have HK1 := Lib.hid hk1
  have HTB := Lib.hid ht1
  clear hs hs1 hk1 ht1 hsz
  go_enter Tryz.func80, Tryz.ntmps80
  go_upto_region 2 with fail
  generalize hw1 : (w.setCell ⟨g, 1, none⟩ (.int .i64 (i : Nat))).alloc (.cells #[.int .i64 0, .string ⟨#[]⟩, .int .i64 0, .string ⟨#[]⟩, .bool false, .slice none 0 0, .slice none 0 0, .int .i64 0, .int .i64 0] 61) = w1 at *
  clear c0 c1 c2 f1 f2 hw1
  have hlt1 := HS1.out.lt
  have HG1 := Lib.hid (HG.out.ks HK1.out)
  have hmr := Lib.hid (marks_range HG1.out.mk')
  go_wp2_with (refine wpList_load_mid rfl 140 _ rfl 2 0 rfl [.string (mkB (mText 0)), .int .i64 ((mKind 0 : Nat) : Int), .string (mkB (mName 0)), .string (mkB (mText 1)), .int .i64 ((mKind 1 : Nat) : Int), .string (mkB (mName 1)), .string (mkB (mText 2)), .int .i64 ((mKind 2 : Nat) : Int), .string (mkB (mName 2)), .string (mkB (mText 3)), .int .i64 ((mKind 3 : Nat) : Int), .string (mkB (mName 3)), .string (mkB (mText 4)), .int .i64 ((mKind 4 : Nat) : Int), .string (mkB (mName 4)), .string (mkB (mText 5)), .int .i64 ((mKind 5 : Nat) : Int), .string (mkB (mName 5)), .string (mkB (mText 6)), .int .i64 ((mKind 6 : Nat) : Int), .string (mkB (mName 6)), .string (mkB (mText 7)), .int .i64 ((mKind 7 : Nat) : Int), .string (mkB (mName 7)), .string (mkB (mText 8)), .int .i64 ((mKind 8 : Nat) : Int), .string (mkB (mName 8)), .string (mkB (mText 9)), .int .i64 ((mKind 9 : Nat) : Int), .string (mkB (mName 9)), .string (mkB (mText 10)), .int .i64 ((mKind 10 : Nat) : Int), .string (mkB (mName 10)), .string (mkB (mText 11)), .int .i64 ((mKind 11 : Nat) : Int), .string (mkB (mName 11))] _ hmr.out Tryz.underlying140 rfl (by kernel_rfl) ?_)
  go_loopw [13] (fun i13 wr => ∃ k : Nat, i13 = .int .i64 (k : Nat) ∧ k ≤ 12 ∧ (∀ j, j < k → pfx (mText j) cs i = false) ∧ Sc wr g sv cs i i ∧ Ks g w1 wr) (fun i13 _ => 12 - (intOf i13).toNat)
  case atStart => exact ⟨0, rfl, by omega, fun j hj => by omega, HS1.out, Ks.refl _ _⟩
  case round =>
    obtain ⟨k, rfl, hk, hno, hsc, hks⟩ := hrel
    have HN := Lib.hid hno
    have HSC := Lib.hid hsc
    have HK := Lib.hid hks
    have hltr := hsc.lt
    clear hno hsc hks
    rcases Nat.lt_or_eq_of_le hk with hkt | rfl
    · have hix := fun w => mark_at k w hkt
      have hkt2 : (k : Int) < 12 := by omega
      go_wp2_with fail
      have HR0 := Lib.hid (heap_alloc_new wr (.cells #[.string (mkB (mText k)), .int .i64 ((mKind k : Nat) : Int), .string (mkB (mName k))] 139 (0, 0)))
      refine (take_mark k g sv cs i i _ (HSC.out.alloc _)).mono ?_
      rintro e w2 ⟨rfl, hs2, hk2⟩
      have HK2 := Lib.hid ((HK.out.alloc hlt1 (.cells #[.string (mkB (mText k)), .int .i64 ((mKind k : Nat) : Int), .string (mkB (mName k))] 139 (0, 0))).trans hk2)
      cases hp : pfx (mText k) cs i with
      | false =>
        rw [hp] at hs2
        have HS2 : Hid (Sc w2 g sv cs i i) := Lib.hid hs2
        have HP := Lib.hid hp
        clear hs2 hk2 hp
        go_wp2_with fail
        go_roundw
        case rel =>
          refine ⟨k + 1, by go_num, by omega, fun j hj => ?_, HS2.out, HK2.out⟩
          by_cases e : j = k
          · subst e; exact HP.out
          · exact HN.out j (by omega)
        case measure => simp only [intOf]; omega
      | true =>
        rw [hp] at hs2
        have HS2 : Hid (Sc w2 g sv cs i (i + (mText k).length)) := Lib.hid hs2
        have HA := Lib.hid (wrdA_mark (markA_hit (k := k) (by omega) hp HN.out))
        have hr2 := (hk2.oth wr.heap.size (by simp) (by omega)).trans HR0.out
        have HT2 := Lib.hid (HTB.out.ks HK2.out (by omega))
        have q0 := cell_heap hr2 0
        have q1 := cell_heap hr2 1
        have q2 := cell_heap hr2 2
        obtain ⟨s0, s1, s2, sf1, sf2⟩ := HS2.out.box.facts
        obtain ⟨c0, c1, c2, c3, c4, c5, c6, c7, c8, f0, f1, f2, f3, f4, f5, f6, f7, f8⟩ := HT2.out.facts
        have hbne : ¬ g = w.heap.size := by omega
        clear hs2 hk2 hp hr2
        go_wp2_with fail
        go_region
        go_wp2_with fail
        obtain ⟨hrow, hk⟩ := HT2.out.fill (.int .i64 ((mKind k : Nat) : Int)) (.string (mkB (mName k))) (.int .i64 0) (.string ⟨#[]⟩) (.bool false) (.slice none 0 0) (.slice none 0 0) (.int .i64 0) (.int .i64 (i : Nat))
        have HKF := Lib.hid (Ks.newB (HK1.out.trans HK2.out) hk (Nat.le_refl _) hlt)
        have HSF := Lib.hid (HS2.out.ks2 hk (by omega) (fun he => by have := HS.out.svb (by omega) _ he; omega))
        clear c0 c1 c2 c3 c4 c5 c6 c7 c8 f0 f1 f2 f3 f4 f5 f6 f7 f8 q0 q1 q2 s0 s1 s2 sf1 sf2 hix
        generalize World.setCell _ ⟨w.heap.size, 8, none⟩ (.int .i64 (i : Nat)) = W' at *
        obtain ⟨c0, c1, c2, c3, c4, c5, c6, c7, c8⟩ := row9 hrow
        refine bodyPost_ret (v := .agg #[.int .i64 ((mKind k : Nat) : Int), .string (mkB (mName k)), .int .i64 0, .string ⟨#[]⟩, .bool false, .slice none 0 0, .slice none 0 0, .int .i64 0, .int .i64 (i : Nat)]) (by simp [results, Tryz.results80, go_sem, c0, c1, c2, c3, c4, c5, c6, c7, c8]) rfl ?_
        exact WPost.yes (x := markW k i) (lv := .slice none 0 0) HA.out rfl HKF.out.drew (Sl.nil _ _) (HSF.out.below (Below.refl _ _).drew)
    · have hM := markA_none HN.out
      have HMN := Lib.hid hM
      clear hM
      go_wp2_with fail
      refine (take_any ⟨#[34]⟩ [34] rfl (by simp) (fun j h => by match j, h with | 0, _ => rfl) g sv cs i i _ HSC.out).mono ?_
      rintro e w2 ⟨rfl, hs2, hk2⟩
      have HK2 := Lib.hid (HK.out.trans hk2)
      clear hk2
      cases hp : pfx [34] cs i with
      | true =>
        rw [hp] at hs2
        have HS2 : Hid (Sc w2 g sv cs i (i + 1)) := Lib.hid hs2
        have HE := Lib.hid (wrdA_quo HMN.out (by rw [pfx_one hil] at hp; simpa using hp))
        clear hs2 hp
        go_wp2_with fail
        refine (quoted_any W g sv cs i (i + 1) _ HS2.out (HG1.out.ks HK2.out)).mono ?_
        rintro e w5 ⟨hk5, ⟨x, j, lv, hx, rfl, hlv, hs5⟩ | ⟨hx, rfl⟩⟩
        · have HX := Lib.hid (HE.out.trans hx)
          have HL := Lib.hid hlv
          obtain ⟨_, av, cv, rfl, _, _⟩ := hlv
          have HS5 := Lib.hid hs5
          have HK5 := Lib.hid (HK2.out.trans hk5)
          have HT5 := Lib.hid (HTB.out.ks HK5.out (by omega))
          obtain ⟨c0, c1, c2, c3, c4, c5, c6, c7, c8, f0, f1, f2, f3, f4, f5, f6, f7, f8⟩ := HT5.out.facts
          clear hx hk5 hs5
          unfold wdV
          go_wp2_with fail
          obtain ⟨hrow, hk⟩ := HT5.out.fill (.int .i64 (x.kind : Nat)) (.string (mkB x.txt)) (.int .i64 (x.d.k : Nat)) (.string (mkB x.d.t)) (.bool x.d.n) (.slice av x.d.r.length cv) (.slice none 0 0) (.int .i64 (x.dat : Nat)) (.int .i64 (x.pl : Nat))
          have HKF := Lib.hid (Ks.newB (HK1.out.trans HK5.out) hk (Nat.le_refl _) hlt)
          have HSF := Lib.hid (HS5.out.ks2 hk (by omega) (fun he => by have := HS.out.svb (by omega) _ he; omega))
          have HLF := Lib.hid (HL.out.u32s (U32S.ks hk HT5.out.noU))
          clear c0 c1 c2 c3 c4 c5 c6 c7 c8 f0 f1 f2 f3 f4 f5 f6 f7 f8
          generalize World.setCell _ ⟨w.heap.size, 8, none⟩ (.int .i64 (x.pl : Nat)) = W' at *
          obtain ⟨c0, c1, c2, c3, c4, c5, c6, c7, c8⟩ := row9 hrow
          refine bodyPost_ret (v := .agg #[.int .i64 (x.kind : Nat), .string (mkB x.txt), .int .i64 (x.d.k : Nat), .string (mkB x.d.t), .bool x.d.n, .slice av x.d.r.length cv, .slice none 0 0, .int .i64 (x.dat : Nat), .int .i64 (x.pl : Nat)]) (by simp [results, Tryz.results80, go_sem, c0, c1, c2, c3, c4, c5, c6, c7, c8]) rfl ?_
          exact WPost.yes (x := x) (lv := .slice av x.d.r.length cv) HX.out rfl HKF.out HLF.out HSF.out
        · exact ⟨rfl, WPost.no (HE.out.trans hx) (HK1.out.trans (HK2.out.trans hk5))⟩
      | false =>
        rw [hp] at hs2
        have HS2 : Hid (Sc w2 g sv cs i i) := Lib.hid hs2
        have hn34 : ¬ limb cs i = 34 := by rw [pfx_one hil] at hp; simpa using hp
        have HN34 := Lib.hid hn34
        clear hs2 hp hn34
        go_wp2_with fail
        refine (take_any ⟨#[35, 92]⟩ [35, 92] rfl (by simp) (fun j h => by match j, h with | 0, _ => rfl | 1, _ => rfl) g sv cs i i _ HS2.out).mono ?_
        rintro e w3 ⟨rfl, hs3, hk3⟩
        have HK3 := Lib.hid (HK2.out.trans hk3)
        clear hk3
        cases hp : pfx [35, 92] cs i with
        | true =>
          rw [hp] at hs3
          have HS3 : Hid (Sc w3 g sv cs i (i + 2)) := Lib.hid hs3
          have HE := Lib.hid (wrdA_chr HMN.out HN34.out hp)
          clear hs3 hp
          go_wp2_with fail
          refine (char_any W g sv cs i (i + 2) _ HS3.out (HG1.out.ks HK3.out)).mono ?_
          rintro e w5 ⟨hk5, ⟨x, j, lv, hx, rfl, hlv, hs5⟩ | ⟨hx, rfl⟩⟩
          · have HX := Lib.hid (HE.out.trans hx)
            have HL := Lib.hid hlv
            obtain ⟨_, av, cv, rfl, _, _⟩ := hlv
            have HS5 := Lib.hid hs5
            have HK5 := Lib.hid (HK3.out.trans hk5)
            have HT5 := Lib.hid (HTB.out.ks HK5.out (by omega))
            obtain ⟨c0, c1, c2, c3, c4, c5, c6, c7, c8, f0, f1, f2, f3, f4, f5, f6, f7, f8⟩ := HT5.out.facts
            clear hx hk5 hs5
            unfold wdV
            go_wp2_with fail
            obtain ⟨hrow, hk⟩ := HT5.out.fill (.int .i64 (x.kind : Nat)) (.string (mkB x.txt)) (.int .i64 (x.d.k : Nat)) (.string (mkB x.d.t)) (.bool x.d.n) (.slice av x.d.r.length cv) (.slice none 0 0) (.int .i64 (x.dat : Nat)) (.int .i64 (x.pl : Nat))
            have HKF := Lib.hid (Ks.newB (HK1.out.trans HK5.out) hk (Nat.le_refl _) hlt)
            have HSF := Lib.hid (HS5.out.ks2 hk (by omega) (fun he => by have := HS.out.svb (by omega) _ he; omega))
            have HLF := Lib.hid (HL.out.u32s (U32S.ks hk HT5.out.noU))
            clear c0 c1 c2 c3 c4 c5 c6 c7 c8 f0 f1 f2 f3 f4 f5 f6 f7 f8
            generalize World.setCell _ ⟨w.heap.size, 8, none⟩ (.int .i64 (x.pl : Nat)) = W' at *
            obtain ⟨c0, c1, c2, c3, c4, c5, c6, c7, c8⟩ := row9 hrow
            refine bodyPost_ret (v := .agg #[.int .i64 (x.kind : Nat), .string (mkB x.txt), .int .i64 (x.d.k : Nat), .string (mkB x.d.t), .bool x.d.n, .slice av x.d.r.length cv, .slice none 0 0, .int .i64 (x.dat : Nat), .int .i64 (x.pl : Nat)]) (by simp [results, Tryz.results80, go_sem, c0, c1, c2, c3, c4, c5, c6, c7, c8]) rfl ?_
            exact WPost.yes (x := x) (lv := .slice av x.d.r.length cv) HX.out rfl HKF.out HLF.out HSF.out
          · exact ⟨rfl, WPost.no (HE.out.trans hx) (HK1.out.trans (HK3.out.trans hk5))⟩
        | false =>
          rw [hp] at hs3
          have HS3 : Hid (Sc w3 g sv cs i i) := Lib.hid hs3
          have HE := Lib.hid (wrdA_atm HMN.out HN34.out hp)
          clear hs3 hp
          go_wp2_with fail
          refine (atom_any W g sv cs i _ HS3.out (HG1.out.ks HK3.out) hil).mono ?_
          rintro e w5 ⟨hk5, ⟨x, j, lv, hx, rfl, hlv, hs5⟩ | ⟨hx, rfl⟩⟩
          · have HX := Lib.hid (HE.out.trans hx)
            have HL := Lib.hid hlv
            obtain ⟨_, av, cv, rfl, _, _⟩ := hlv
            have HS5 := Lib.hid hs5
            have HK5 := Lib.hid (HK3.out.trans hk5)
            have HT5 := Lib.hid (HTB.out.ks HK5.out (by omega))
            obtain ⟨c0, c1, c2, c3, c4, c5, c6, c7, c8, f0, f1, f2, f3, f4, f5, f6, f7, f8⟩ := HT5.out.facts
            clear hx hk5 hs5
            unfold wdV
            go_wp2_with fail
            obtain ⟨hrow, hk⟩ := HT5.out.fill (.int .i64 (x.kind : Nat)) (.string (mkB x.txt)) (.int .i64 (x.d.k : Nat)) (.string (mkB x.d.t)) (.bool x.d.n) (.slice av x.d.r.length cv) (.slice none 0 0) (.int .i64 (x.dat : Nat)) (.int .i64 (x.pl : Nat))
            have HKF := Lib.hid (Ks.newB (HK1.out.trans HK5.out) hk (Nat.le_refl _) hlt)
            have HSF := Lib.hid (HS5.out.ks2 hk (by omega) (fun he => by have := HS.out.svb (by omega) _ he; omega))
            have HLF := Lib.hid (HL.out.u32s (U32S.ks hk HT5.out.noU))
            clear c0 c1 c2 c3 c4 c5 c6 c7 c8 f0 f1 f2 f3 f4 f5 f6 f7 f8
            generalize World.setCell _ ⟨w.heap.size, 8, none⟩ (.int .i64 (x.pl : Nat)) = W' at *
            obtain ⟨c0, c1, c2, c3, c4, c5, c6, c7, c8⟩ := row9 hrow
            refine bodyPost_ret (v := .agg #[.int .i64 (x.kind : Nat), .string (mkB x.txt), .int .i64 (x.d.k : Nat), .string (mkB x.d.t), .bool x.d.n, .slice av x.d.r.length cv, .slice none 0 0, .int .i64 (x.dat : Nat), .int .i64 (x.pl : Nat)]) (by simp [results, Tryz.results80, go_sem, c0, c1, c2, c3, c4, c5, c6, c7, c8]) rfl ?_
            exact WPost.yes (x := x) (lv := .slice av x.d.r.length cv) HX.out rfl HKF.out HLF.out HSF.out
          · exact ⟨rfl, WPost.no (HE.out.trans hx) (HK1.out.trans (HK3.out.trans hk5))⟩
end Go.Proofs.YtpahfhjgcflifaaGreatDoor
