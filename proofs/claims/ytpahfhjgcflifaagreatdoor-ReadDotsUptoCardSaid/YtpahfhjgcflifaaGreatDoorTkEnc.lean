/- token.encoded; (*scanner).numbered, escape | (*scanner).numbered, escape | Words as values, a word's box, and what methods answer that pass a word. No walk here. -/
import Derived.Test.YtpahfhjgcflifaaGreatDoorTkMove
import Derived.Test.YtpahfhjgcflifaaGreatDoorTkAtom
import Derived.Test.YtpahfhjgcflifaaGreatDoorUDecH
import Derived.Test.YtpahfhjgcflifaaGreatDoorNumbered
import Derived.Test.YtpahfhjgcflifaaGreatDoorApp
import Derived.StillTailTactics
namespace Go.Proofs.YtpahfhjgcflifaaGreatDoor
open Go.RowKit

theorem strOf_mkB' (l : List Nat) : strOf l = mkB l := rfl
theorem scQ_scB {c : Nat} (h : ScQ c) : scB (c : Int) = true := by
  unfold ScQ at h
  unfold scB
  simp only [decide_eq_true_iff]
  omega
theorem encA_scq {cs : List Nat} (h : ∀ c ∈ cs, ScQ c) : encA (cs.map fun (x : Nat) => (x : Int)) = (encL cs, 0) := by
  unfold encA
  rw [if_pos]
  · congr 2
    rw [List.map_map]
    have : (Int.toNat ∘ fun (x : Nat) => (x : Int)) = id := by funext x; simp
    rw [this, List.map_id]
  · rw [List.all_eq_true]
    intro z hz
    obtain ⟨c, hc, rfl⟩ := List.mem_map.1 hz
    exact scQ_scB (h c hc)

set_option maxRecDepth 100000 in
set_option maxHeartbeats 1000000 in
theorem encoded_any (v : Value) (cs : List Nat) (w : World) (hs : Sl .i64 w v cs) (hl : cs.length ≤ 2000000) (hc : ∀ c ∈ cs, ScQ c) :
    Calls Tryz.prog 120 #[v] w fun e w' => e = .returned (.string (mkB (encL cs))) ∧ Below w.heap.size w w' := by
  have hz := encA_scq hc
  have hslv := slv_nat hs
  have HS := Lib.hid hslv
  obtain ⟨_, ao, cap, rfl, _, _⟩ := hs
  clear hslv hc
  go_enter Tryz.func120, Tryz.ntmps120
  go_wp2_with fail
  refine (encode_any _ (cs.map fun (x : Nat) => (x : Int)) _ HS.out (by simpa using hl)).mono ?_
  rintro e w1 ⟨v1, rfl, hs1, hb⟩
  rw [hz] at hs1 ⊢
  have hconv := conv_sl (P := Tryz.prog) Tryz.underlying34 Tryz.underlying5 Tryz.underlying9 hs1
  obtain ⟨_, ao1, cap1, rfl, _, _⟩ := hs1
  rw [strOf_mkB'] at hconv
  clear hz
  go_wp2_with fail
  go_ret
  exact ⟨rfl, hb⟩
end Go.Proofs.YtpahfhjgcflifaaGreatDoor
namespace Go.Proofs.YtpahfhjgcflifaaGreatDoor
open Go.RowKit

/-- The table of marks. -/
def Marks (w : World) : Prop := ∀ k, k < 12 → w.cell? ⟨2, 3 * k, none⟩ = some (.string (mkB (mText k))) ∧ w.cell? ⟨2, 3 * k + 1, none⟩ = some (.int .i64 ((mKind k : Nat) : Int)) ∧
  w.cell? ⟨2, 3 * k + 2, none⟩ = some (.string (mkB (mName k)))
theorem Marks.below {w w' : World} (h : Marks w) (hb : Below w.heap.size w w') : Marks w' := fun k hk => ⟨cell_keep (h k hk).1 hb, cell_keep (h k hk).2.1 hb, cell_keep (h k hk).2.2 hb⟩
/-- The tables, as they lie ahead of the scanner. -/
structure Gl (W w : World) (g : Nat) : Prop where
  tabs : Tabs2 W
  words : Words W
  marks : Marks W
  bel : Below W.heap.size W w
  le : W.heap.size ≤ g
theorem Gl.ks {W w w' : World} {g : Nat} (h : Gl W w g) (hk : Ks g w w') : Gl W w' g := ⟨h.tabs, h.words, h.marks, h.bel.trans (hk.bel.mono h.le), h.le⟩
theorem Gl.below {W w w' : World} {g : Nat} (h : Gl W w g) (hb : Below w.heap.size w w') : Gl W w' g := ⟨h.tabs, h.words, h.marks, h.bel.trans (hb.mono h.bel.size), h.le⟩
theorem Gl.t2 {W w : World} {g : Nat} (h : Gl W w g) : Tabs2 w := h.tabs.below h.bel
theorem Gl.wd {W w : World} {g : Nat} (h : Gl W w g) : Words w := h.words.below h.bel
theorem Gl.mk' {W w : World} {g : Nat} (h : Gl W w g) : Marks w := h.marks.below h.bel

/-- What a method answers that may give up: a character, and where the scanner stands then. -/
def OptPost (o : Option (Nat × Nat)) (g : Nat) (sv : Value) (cs : List Nat) (f : Nat) (w : World) (e : Ending) (w' : World) : Prop :=
  Ks g w w' ∧ ((∃ c j, o = some (c, j) ∧ e = .returned (.int .i64 ((c : Nat) : Int)) ∧ Sc w' g sv cs f j) ∨ (o = none ∧ e = .panicked (flt f)))
theorem OptPost.yes {o : Option (Nat × Nat)} {g : Nat} {sv : Value} {cs : List Nat} {f c j : Nat} {w w' : World} (h : o = some (c, j)) (hk : Ks g w w') (hs : Sc w' g sv cs f j) : OptPost o g sv cs f w (.returned (.int .i64 ((c : Nat) : Int))) w' :=
  ⟨hk, .inl ⟨c, j, h, rfl, hs⟩⟩
theorem OptPost.no {o : Option (Nat × Nat)} {g : Nat} {sv : Value} {cs : List Nat} {f : Nat} {w w' : World} (h : o = none) (hk : Ks g w w') : OptPost o g sv cs f w (.panicked (flt f)) w' :=
  ⟨hk, .inr ⟨h, rfl⟩⟩

theorem encL_byQ {l : List Nat} (h : ∀ c ∈ l, ScQ c) : By (encL l) := by
  induction l with
  | nil => exact By.nil
  | cons c l ih =>
    have hc := h c (by simp)
    have : encL (c :: l) = encN c ++ encL l := by simp [encL]
    rw [this]
    exact (encN_by (by unfold ScQ at hc; omega)).app (ih fun x hx => h x (by simp [hx]))
theorem encL_empty {l : List Nat} (h : encL l = []) : l = [] := by
  cases l with
  | nil => rfl
  | cons c l =>
    have : encL (c :: l) = encN c ++ encL l := by simp [encL]
    rw [this] at h
    have h2 := congrArg List.length h
    have := (blen_le c).1
    rw [List.length_append, encN_len] at h2
    simp at h2
    omega
theorem mkB_cons (D : List Nat) : (⟨#[120]⟩ : ByteArray) ++ mkB D = mkB (120 :: D) := by
  apply ByteArray.ext
  rw [ByteArray.data_append]
  unfold mkB
  simp
theorem numA_out {cs : List Nat} {a : Nat} (h : til semN cs a = cs.length) : numA cs a = none := by unfold numA; rw [if_neg (by omega)]
theorem numA_empty {cs : List Nat} {a : Nat} (h : til semN cs a = a) : numA cs a = none := by
  unfold numA
  simp [h]
theorem numA_at {cs : List Nat} {a k : Nat} (h : til semN cs a = k) (hk : k < cs.length) (hne : k ≠ a) : numA cs a = (namedA (120 :: encL (cutN cs a k))).map fun c => (c, k + 1) := by
  unfold numA
  rw [h, if_pos hk, if_neg hne]
theorem wrap_nat {a : Nat} (h : a ≤ 1000000000) : IntKind.i64.wrap ((a : Nat) : Int) = ((a : Nat) : Int) := by
  rw [IntKind.wrap_i64]
  omega
theorem cutN_sl {w : World} {b off cap a k : Nat} {cs : List Nat} (h : Sl .i64 w (.slice (some ⟨b, off, none⟩) cs.length cap) cs) (hak : a ≤ k) (hk : k ≤ cs.length) :
    Sl .i64 w (.slice (some ⟨b, off + a, none⟩) (k - a) (cap - a)) (cutN cs a k) := by
  obtain ⟨hm, ao, c, hv, hc, h⟩ := h
  simp only [Value.slice.injEq, true_and] at hv
  obtain ⟨rfl, rfl⟩ := hv
  have hl := cutN_len hak hk
  refine ⟨by omega, _, _, by rw [hl], by omega, ?_⟩
  rcases h with ⟨rfl, _⟩ | ⟨b', off', he, hlt, hcell⟩
  · exact .inl ⟨by simp [cutN], fun h => by cases h⟩
  · simp only [Option.some.injEq, Addr.mk.injEq, and_true] at he
    obtain ⟨rfl, rfl⟩ := he
    refine .inr ⟨b, off + a, rfl, hlt, fun j hj => ?_⟩
    rw [cutN_limb (by omega), Nat.add_assoc]
    exact hcell (a + j) (by omega)
theorem cutN_sc {cs : List Nat} {a k : Nat} (h : ∀ c ∈ cs, ScQ c) : ∀ c ∈ cutN cs a k, ScQ c := fun c hc => h c (List.mem_of_mem_drop (List.mem_of_mem_take hc))

set_option maxRecDepth 100000 in
set_option maxHeartbeats 4000000 in
theorem numbered_sc (W : World) (g : Nat) (sv : Value) (cs : List Nat) (f a : Nat) (w : World) (hs : Sc w g sv cs f a) (hgl : Gl W w g) :
    Calls Tryz.prog 128 #[.pointer (some ⟨g, 0, none⟩)] w (OptPost (numA cs a) g sv cs f w) := by
  have HS := Lib.hid hs
  have HG := Lib.hid hgl; clear hgl
  obtain ⟨c0, c1, c2, f1, f2⟩ := hs.box.facts
  have hlen := hs.small
  have hle := hs.le
  have hlt := hs.lt
  clear hs
  go_enter Tryz.func128, Tryz.ntmps128
  go_wp2_with fail
  clear c0 c1 c2 f1 f2
  go_loopg [11] (cs.length - a) (fun gk _ wr => ∃ a', Sc wr g sv cs f a' ∧ a ≤ a' ∧ (∀ j, a ≤ j → j < a' → semN (limb cs j) = false) ∧ Ks g w wr ∧ cs.length - a' ≤ gk)
  case atStart => exact ⟨a, HS.out, Nat.le_refl _, fun j h1 h2 => by omega, Ks.refl _ _, Nat.le_refl _⟩
  case round =>
    obtain ⟨a', hsc, haa, hno, hks, hm⟩ := hrel
    have HN := Lib.hid hno; clear hno
    have HK := Lib.hid hks; clear hks
    have hle' := hsc.le
    have HSC := Lib.hid hsc; clear hsc
    go_wp2_with fail
    refine (next_any g sv cs f a' _ HSC.out).mono ?_
    rintro e w1 (⟨hlt1, rfl, hs1, hk1⟩ | ⟨rfl, rfl, hk1⟩)
    · have HK1 := Lib.hid (HK.out.trans hk1)
      have HS1 := Lib.hid hs1
      clear hk1 hs1
      cases hsem : semN (limb cs a') with
      | false =>
        have hq : (((limb cs a' : Nat) : Int) != 59) = true := by unfold semN at hsem; simp at hsem ⊢; omega
        have HSEM := Lib.hid hsem; clear hsem
        go_wp2_with fail
        go_roundg (cs.length - (a' + 1))
        case measure => omega
        case rel =>
          refine ⟨a' + 1, HS1.out, by omega, fun j h1 h2 => ?_, HK1.out, Nat.le_refl _⟩
          by_cases e : j = a'
          · subst e; exact HSEM.out
          · exact HN.out j h1 (by omega)
      | true =>
        have hq : (((limb cs a' : Nat) : Int) != 59) = false := by unfold semN at hsem; simp at hsem ⊢; omega
        have HT := Lib.hid (til_is _ a a' rfl haa (by omega) HN.out (fun _ => hsem))
        clear hsem
        obtain ⟨ao, cap, rfl, hcap, hcell⟩ := HS1.out.open'
        obtain ⟨b, off, rfl, _⟩ := hcell a' hlt1
        obtain ⟨c0, c1, c2, f1, f2⟩ := HS1.out.box.facts
        have HCAP := Lib.hid hcap
        clear hcell
        go_wp2_with fail
        have hsub : ((a' : Int) + 1 - 1) = (a' : Int) := by omega
        have hca : ¬ cap = a := by omega
        have h1 : (a' : Int) ≤ (cap : Int) := by omega
        have h2 : (a : Int) ≤ (a' : Int) := by omega
        have hwr := wrap_nat (a := a') (by omega)
        go_still_tail 11, (by kernel_rfl)
        change wpList _ _ _ _ _ w1.drew
        go_wp2_with fail
        have HSd := Lib.hid (HS1.out.below ((Below.refl w1.heap.size w1).drew))
        refine (encoded_any _ (cutN cs a a') _ (cutN_sl HSd.out.txt haa (by omega)) (by rw [cutN_len haa (by omega)]; omega) (cutN_sc HSd.out.sc)).mono ?_
        rintro e w2 ⟨rfl, hb2⟩
        have HSe := Lib.hid (HSd.out.below hb2)
        have HKe := Lib.hid ((HK1.out.drew).below hlt hb2)
        clear hb2 HSd
        have hDl : (mkB (encL (cutN cs a a'))).size ≤ 8000000 := by
          have := encL_len (cutN cs a a')
          have := cutN_len (cs := cs) haa (show a' ≤ cs.length by omega)
          rw [mkB_size]; omega
        have hDl2 : ¬ 9223372036854775807 < 1 + (mkB (encL (cutN cs a a'))).size := by omega
        obtain ⟨D, hD⟩ : ∃ D, D = encL (cutN cs a a') := ⟨_, rfl⟩
        rw [← hD] at hDl hDl2 ⊢
        have HD := Lib.hid hD; clear hD
        clear c0 c1 c2 f1 f2 hca h1 h2 hsub hwr
        go_wp2_with fail
        rw [mkB_cons]
        have hby : By D := by rw [HD.out]; exact encL_byQ (cutN_sc HSe.out.sc)
        have hby2 : By (120 :: D) := By.app (a := [120]) (fun i => by match i with | 0 => simp [limb] | i + 1 => simp [limb]) hby
        have hbm := byt_mk hby2
        refine (named_any (mkB (120 :: D)) _ (HG.out.ks HKe.out).t2 (HG.out.ks HKe.out).wd).mono ?_
        rintro e w3 ⟨rfl, hb3⟩
        rw [hbm]
        have HSf := Lib.hid (HSe.out.below hb3)
        have HKf := Lib.hid (HKe.out.below hlt hb3)
        clear hb3 hbm hby hby2
        obtain ⟨c0, c1, c2, f1, f2⟩ := HSf.out.box.facts
        by_cases hDe : D = []
        · have hcut : cutN cs a a' = [] := encL_empty (by rw [← HD.out]; exact hDe)
          have haa2 : a' = a := by have := cutN_len (cs := cs) haa (by omega); rw [hcut] at this; simp at this; omega
          have HN0 := Lib.hid (numA_empty (cs := cs) (a := a) (by rw [HT.out, haa2]))
          have hem := list_nil (T := mkB D) (by rw [mkB_size, hDe]; rfl)
          obtain ⟨hem1, hem2⟩ := hem
          clear hcut haa2 hDe
          go_wp2_with fail
          exact ⟨rfl, OptPost.no HN0.out HKf.out⟩
        · have hne : a' ≠ a := by
            intro h
            have : cutN cs a a' = [] := by rw [h]; exact cutN_nil a
            exact hDe (by rw [HD.out, this]; rfl)
          have HN0 := Lib.hid (numA_at HT.out hlt1 hne)
          have hem := toList_ne (s := mkB D) (by rw [mkB_size]; exact List.length_pos_iff.2 hDe)
          obtain ⟨hem1, hem2⟩ := hem
          rw [← HD.out] at HN0
          clear hDe hne
          cases hnm : namedA (120 :: D) with
          | none =>
            rw [hnm] at HN0
            go_wp2_with fail
            exact ⟨rfl, OptPost.no HN0.out HKf.out⟩
          | some c =>
            rw [hnm] at HN0
            go_wp2_with fail
            go_ret
            exact OptPost.yes HN0.out HKf.out HSf.out
    · exact ⟨rfl, OptPost.no (numA_out (til_is _ a cs.length rfl haa (Nat.le_refl _) HN.out (fun h => by omega))) (HK.out.trans hk1)⟩

theorem escA_out {cs : List Nat} {a : Nat} (h : cs.length ≤ a) : escA cs a = none := by unfold escA; rw [if_neg (by omega)]

set_option maxRecDepth 100000 in
set_option maxHeartbeats 4000000 in
theorem escape_any (W : World) (g : Nat) (sv : Value) (cs : List Nat) (f a : Nat) (w : World) (hs : Sc w g sv cs f a) (hgl : Gl W w g) :
    Calls Tryz.prog 118 #[.pointer (some ⟨g, 0, none⟩)] w (OptPost (escA cs a) g sv cs f w) := by
  have HS := Lib.hid hs
  have HG := Lib.hid hgl; clear hgl
  have hlt := hs.lt
  clear hs
  go_enter Tryz.func118, Tryz.ntmps118
  go_wp2_with fail
  refine (next_any g sv cs f a _ HS.out).mono ?_
  rintro e w1 (⟨hlt1, rfl, hs1, hk1⟩ | ⟨rfl, rfl, hk1⟩)
  · have HS1 := Lib.hid hs1
    have HK1 := Lib.hid hk1
    obtain ⟨c0, c1, c2, f1, f2⟩ := hs1.box.facts
    clear hs1 hk1
    have hE : escA cs a = if limb cs a = 110 then some (10, a + 1) else if limb cs a = 116 then some (9, a + 1) else if limb cs a = 114 then some (13, a + 1)
      else if limb cs a = 92 ∨ limb cs a = 34 then some (limb cs a, a + 1) else if limb cs a = 120 then numA cs (a + 1) else none := by unfold escA; rw [if_pos hlt1]
    generalize limb cs a = x at *
    have HE := Lib.hid hE; clear hE
    by_cases e1 : x = 110
    · subst e1
      go_wp2_with fail
      go_ret
      exact OptPost.yes (by rw [HE.out]; rfl) HK1.out HS1.out
    have q1 : ((x : Int) == 110) = false := by rw [beq_eq_false_iff_ne]; omega
    by_cases e2 : x = 116
    · subst e2
      go_wp2_with fail
      go_ret
      exact OptPost.yes (by rw [HE.out]; rfl) HK1.out HS1.out
    have q2 : ((x : Int) == 116) = false := by rw [beq_eq_false_iff_ne]; omega
    by_cases e3 : x = 114
    · subst e3
      go_wp2_with fail
      go_ret
      exact OptPost.yes (by rw [HE.out]; rfl) HK1.out HS1.out
    have q3 : ((x : Int) == 114) = false := by rw [beq_eq_false_iff_ne]; omega
    by_cases e4 : x = 92
    · subst e4
      go_wp2_with fail
      go_ret
      exact OptPost.yes (c := 92) (by rw [HE.out]; rfl) HK1.out HS1.out
    have q4 : ((x : Int) == 92) = false := by rw [beq_eq_false_iff_ne]; omega
    by_cases e5 : x = 34
    · subst e5
      go_wp2_with fail
      go_ret
      exact OptPost.yes (c := 34) (by rw [HE.out]; rfl) HK1.out HS1.out
    have q5 : ((x : Int) == 34) = false := by rw [beq_eq_false_iff_ne]; omega
    rw [if_neg e1, if_neg e2, if_neg e3, if_neg (by omega)] at HE
    by_cases e6 : x = 120
    · have q6 : ((x : Int) == 120) = true := by rw [beq_iff_eq]; omega
      rw [if_pos e6] at HE
      clear e1 e2 e3 e4 e5 e6
      go_wp2_with fail
      refine (numbered_sc W g sv cs f (a + 1) _ HS1.out (HG.out.ks HK1.out)).mono ?_
      rintro e w2 ⟨hk2, ⟨c, j, hn, rfl, hs2⟩ | ⟨hn, rfl⟩⟩
      · have HN := Lib.hid (HE.out.trans hn)
        have HK2 := Lib.hid (HK1.out.trans hk2)
        have HS2 := Lib.hid hs2
        clear hn hk2 hs2
        go_wp2_with fail
        go_ret
        exact OptPost.yes HN.out HK2.out HS2.out
      · exact ⟨rfl, OptPost.no (HE.out.trans hn) (HK1.out.trans hk2)⟩
    · have q6 : ((x : Int) == 120) = false := by rw [beq_eq_false_iff_ne]; omega
      rw [if_neg e6] at HE
      clear e1 e2 e3 e4 e5 e6
      go_wp2_with fail
      exact ⟨rfl, OptPost.no HE.out HK1.out⟩
  · exact ⟨rfl, OptPost.no (escA_out (Nat.le_refl _)) hk1⟩
end Go.Proofs.YtpahfhjgcflifaaGreatDoor
namespace Go.Proofs.YtpahfhjgcflifaaGreatDoor
open Go.RowKit

/-- A word's box that holds nothing yet. -/
def TB (W : World) (g : Nat) : Prop := W.heap[g]? = some (.cells #[.int .i64 0, .string ⟨#[]⟩, .int .i64 0, .string ⟨#[]⟩, .bool false, .slice none 0 0, .slice none 0 0, .int .i64 0, .int .i64 0] 61 (0, 0))
theorem TB.lt {W : World} {g : Nat} (h : TB W g) : g < W.heap.size := (Array.getElem?_eq_some_iff.1 h).1
theorem TB.step {W W' : World} {g : Nat} (h : TB W g) (hb : Below W.heap.size W W') : TB W' g := (hb.block g h.lt).trans h
theorem TB.ks {W W' : World} {g b : Nat} (h : TB W b) (hk : Ks g W W') (hne : b ≠ g) : TB W' b := (hk.oth b h.lt hne).trans h
theorem TB.new (W : World) : TB (W.alloc (.cells #[.int .i64 0, .string ⟨#[]⟩, .int .i64 0, .string ⟨#[]⟩, .bool false, .slice none 0 0, .slice none 0 0, .int .i64 0, .int .i64 0] 61)) W.heap.size := heap_alloc_new W _
theorem TB.noU {W : World} {g : Nat} (h : TB W g) : NoU W g := by
  refine NoU.of_cells h fun v hv x => ?_
  simp at hv
  rcases hv with rfl | rfl | rfl | rfl | rfl | rfl | rfl | rfl | rfl <;> simp
structure TBF (W : World) (g : Nat) : Prop where
  c0 : W.cell? ⟨g, 0, none⟩ = some (.int .i64 0)
  c1 : W.cell? ⟨g, 1, none⟩ = some (.string ⟨#[]⟩)
  c2 : W.cell? ⟨g, 2, none⟩ = some (.int .i64 0)
  c3 : W.cell? ⟨g, 3, none⟩ = some (.string ⟨#[]⟩)
  c4 : W.cell? ⟨g, 4, none⟩ = some (.bool false)
  c5 : W.cell? ⟨g, 5, none⟩ = some (.slice none 0 0)
  c6 : W.cell? ⟨g, 6, none⟩ = some (.slice none 0 0)
  c7 : W.cell? ⟨g, 7, none⟩ = some (.int .i64 0)
  c8 : W.cell? ⟨g, 8, none⟩ = some (.int .i64 0)
  f0 : W.frozen? ⟨g, 0, none⟩ = false
  f1 : W.frozen? ⟨g, 1, none⟩ = false
  f2 : W.frozen? ⟨g, 2, none⟩ = false
  f3 : W.frozen? ⟨g, 3, none⟩ = false
  f4 : W.frozen? ⟨g, 4, none⟩ = false
  f5 : W.frozen? ⟨g, 5, none⟩ = false
  f6 : W.frozen? ⟨g, 6, none⟩ = false
  f7 : W.frozen? ⟨g, 7, none⟩ = false
  f8 : W.frozen? ⟨g, 8, none⟩ = false
theorem TB.facts {W : World} {g : Nat} (h : TB W g) : TBF W g :=
  ⟨cell_heap h 0, cell_heap h 1, cell_heap h 2, cell_heap h 3, cell_heap h 4, cell_heap h 5, cell_heap h 6, cell_heap h 7, cell_heap h 8,
   frozen_heap h 0, frozen_heap h 1, frozen_heap h 2, frozen_heap h 3, frozen_heap h 4, frozen_heap h 5, frozen_heap h 6, frozen_heap h 7, frozen_heap h 8⟩
theorem rowSet {W : World} {g : Nat} {cs : Array Value} {e : TypeId} {fz : Nat × Nat} (h : W.heap[g]? = some (.cells cs e fz)) (i : Nat) (a : Value) : (W.setCell ⟨g, i, none⟩ a).heap[g]? = some (.cells (cs.setIfInBounds i a) e fz) := by
  simp only [World.setCell, Array.getElem?_modify, if_true, h]
  rfl
/-- A word stored into its box. -/
theorem TB.fill {W : World} {g : Nat} (h : TB W g) (a0 a1 a2 a3 a4 a5 a6 a7 a8 : Value) :
    (((((((((W.setCell ⟨g, 0, none⟩ a0).setCell ⟨g, 1, none⟩ a1).setCell ⟨g, 2, none⟩ a2).setCell ⟨g, 3, none⟩ a3).setCell ⟨g, 4, none⟩ a4).setCell ⟨g, 5, none⟩ a5).setCell ⟨g, 6, none⟩ a6).setCell ⟨g, 7, none⟩ a7).setCell ⟨g, 8, none⟩ a8).heap[g]? = some (.cells #[a0, a1, a2, a3, a4, a5, a6, a7, a8] 61 (0, 0)) ∧
    Ks g W (((((((((W.setCell ⟨g, 0, none⟩ a0).setCell ⟨g, 1, none⟩ a1).setCell ⟨g, 2, none⟩ a2).setCell ⟨g, 3, none⟩ a3).setCell ⟨g, 4, none⟩ a4).setCell ⟨g, 5, none⟩ a5).setCell ⟨g, 6, none⟩ a6).setCell ⟨g, 7, none⟩ a7).setCell ⟨g, 8, none⟩ a8) := by
  refine ⟨?_, ((((((((((Ks.refl g W).set 0 _).set 1 _).set 2 _).set 3 _).set 4 _).set 5 _).set 6 _).set 7 _).set 8 _)⟩
  have h9 := rowSet (rowSet (rowSet (rowSet (rowSet (rowSet (rowSet (rowSet (rowSet h 0 a0) 1 a1) 2 a2) 3 a3) 4 a4) 5 a5) 6 a6) 7 a7) 8 a8
  rw [h9]
  simp
theorem row9 {W : World} {g : Nat} {a0 a1 a2 a3 a4 a5 a6 a7 a8 : Value} {e : TypeId} (h : W.heap[g]? = some (.cells #[a0, a1, a2, a3, a4, a5, a6, a7, a8] e (0, 0))) :
    W.cell? ⟨g, 0, none⟩ = some a0 ∧ W.cell? ⟨g, 1, none⟩ = some a1 ∧ W.cell? ⟨g, 2, none⟩ = some a2 ∧ W.cell? ⟨g, 3, none⟩ = some a3 ∧ W.cell? ⟨g, 4, none⟩ = some a4 ∧ W.cell? ⟨g, 5, none⟩ = some a5 ∧ W.cell? ⟨g, 6, none⟩ = some a6 ∧ W.cell? ⟨g, 7, none⟩ = some a7 ∧ W.cell? ⟨g, 8, none⟩ = some a8 :=
  ⟨cell_heap h 0, cell_heap h 1, cell_heap h 2, cell_heap h 3, cell_heap h 4, cell_heap h 5, cell_heap h 6, cell_heap h 7, cell_heap h 8⟩

theorem Ks.grownBy {g : Nat} {w w' : World} (h : Ks g w w') : w.grownBy w' (some g) :=
  ⟨h.bel.os, h.bel.tape, h.bel.output, h.bel.size, fun k hk hne => h.oth k hk (fun e => hne (by rw [e]))⟩
theorem Ks.grown {g : Nat} {w w' w'' : World} (h : Ks g w w') (hg : g < w.heap.size) {row : Option Nat} (hgr : w'.grownBy w'' row) (hr : ∀ k, row = some k → w.heap.size ≤ k) : Ks g w w'' :=
  ⟨h.bel.grown hgr (by have := h.size; omega) (fun k hk => by have := hr k hk; omega), fun b hb hne => (hgr.block b (Nat.lt_of_lt_of_le hb h.size) (fun e => by have := hr b e.symm; omega)).trans (h.oth b hb hne)⟩
theorem owns_ks {w w' : World} {base n size g : Nat} {e : TypeId} {v : Value} {xs : List Value} (h : w.ownsRow base e size v n xs) (hk : Ks g w w') (hg : g < base) : w'.ownsRow base e size v n xs := by
  refine h.kept hk.grownBy (.inr ?_)
  intro he
  have := h.lt g he
  omega
theorem Ks.of_below {g : Nat} {w w' : World} (hg : g < w.heap.size) (h : Below w.heap.size w w') : Ks g w w' := (Ks.refl g w).below hg h
/-- Two blocks only have changed, of which one is new. -/
theorem Ks.two {g b : Nat} {w w0 w' w'' : World} (h0 : Below w.heap.size w w0) (h : Ks g w0 w') (h2 : Ks b w' w'') (hb : w.heap.size ≤ b) (hg : g < w.heap.size) : Ks g w w'' := by
  refine ⟨(h0.mono (by omega)).trans (h.bel.trans (h2.bel.mono (by omega))), fun k hk hne => ?_⟩
  rw [h2.oth k (by have := h.size; have := h0.size; omega) (by omega), h.oth k (by have := h0.size; omega) hne]
  exact h0.block k hk
theorem Ks.newB {g b : Nat} {w w' w'' : World} (h : Ks g w w') (h2 : Ks b w' w'') (hb : w.heap.size ≤ b) (hg : g < w.heap.size) : Ks g w w'' :=
  ⟨h.bel.trans (h2.bel.mono (by omega)), fun k hk hne => (h2.oth k (by have := h.size; omega) (by omega)).trans (h.oth k hk hne)⟩
theorem Sc.ks2 {w w' : World} {g b : Nat} {sv : Value} {cs : List Nat} {f a : Nat} (h : Sc w g sv cs f a) (hk : Ks b w w') (hb : b ≠ g) (hs : sv.ownBlock ≠ some b) : Sc w' g sv cs f a :=
  ⟨(hk.oth g h.lt (Ne.symm hb)).trans h.box, h.txt.ks hk (fun _ => hs), h.apart, h.small, h.le, h.sc⟩

theorem Sc.svb {w : World} {g : Nat} {sv : Value} {cs : List Nat} {f a : Nat} (h : Sc w g sv cs f a) (hne : 0 < cs.length) : ∀ b, sv.ownBlock = some b → b < w.heap.size := by
  intro b hb
  obtain ⟨_, ao, cap, rfl, _, hh⟩ := h.txt
  rcases hh with ⟨h1, _⟩ | ⟨b', off, rfl, hlt, _⟩
  · rw [h1] at hne; simp at hne
  · simp [Value.ownBlock] at hb; omega
theorem Sc.grown {w w' : World} {g : Nat} {sv : Value} {cs : List Nat} {f a : Nat} (h : Sc w g sv cs f a) {row : Option Nat} (hg : w.grownBy w' row) (h1 : row ≠ some g) (h2 : ∀ b, sv.ownBlock = some b → row ≠ some b) : Sc w' g sv cs f a := by
  refine ⟨(hg.block g h.lt (fun e => h1 e.symm)).trans h.box, ?_, h.apart, h.small, h.le, h.sc⟩
  obtain ⟨hm, ao, c, rfl, hc, h3⟩ := h.txt
  refine ⟨hm, ao, c, rfl, hc, ?_⟩
  rcases h3 with ⟨h3, h4⟩ | ⟨b, off, rfl, h4, h5⟩
  · exact .inl ⟨h3, h4⟩
  · refine .inr ⟨b, off, rfl, Nat.lt_of_lt_of_le h4 hg.size, fun j hj => ?_⟩
    rw [← h5 j hj]
    exact World.cell?_of_block (hg.block b h4 (fun e => h2 b rfl e.symm))
theorem namedA_sc {bs : List Nat} {c : Nat} (hby : By bs) (h : namedA bs = some c) : ScQ c := by
  unfold namedA at h
  cases hw : wordA bs with
  | some d =>
    rw [hw] at h
    injection h with h
    subst h
    unfold wordA at hw
    rw [Option.map_eq_some_iff] at hw
    obtain ⟨p, hp, rfl⟩ := hw
    have hm := List.mem_of_find?_eq_some hp
    unfold wtab at hm
    simp only [List.mem_cons, List.mem_nil_iff, or_false] at hm
    rcases hm with rfl | rfl | rfl | rfl | rfl | rfl <;> (unfold ScQ; simp)
  | none =>
    rw [hw] at h
    simp only [] at h
    split at h
    · rename_i hh
      injection h with h
      rw [← h]
      exact (enc_dc hby (List.length_pos_iff.2 hh.1) hh.2.1).2
    · split at h
      · unfold hexA at h
        split at h
        · cases h
        · split at h
          · cases h
          · split at h
            · rename_i hsc
              injection h with h
              subst h
              unfold scB at hsc
              simp only [decide_eq_true_iff] at hsc
              unfold ScQ
              omega
            · cases h
      · cases h
theorem numA_sc {cs : List Nat} {i c j : Nat} (hq : ∀ x ∈ cs, ScQ x) (h : numA cs i = some (c, j)) : ScQ c := by
  unfold numA at h
  split at h
  · split at h
    · cases h
    · rw [Option.map_eq_some_iff] at h
      obtain ⟨x, hx, h⟩ := h
      injection h with h1 h2
      subst h1
      exact namedA_sc (By.app (a := [120]) (fun i => by match i with | 0 => simp [limb] | i + 1 => simp [limb]) (encL_byQ (cutN_sc hq))) hx
  · cases h
theorem nxA_sc {cs : List Nat} {i c j : Nat} (hq : ∀ x ∈ cs, ScQ x) (hi : i < cs.length) (h : nxA cs i = some (c, j)) : ScQ c := by
  have hm : ∀ k, k < cs.length → ScQ (limb cs k) := fun k hk => hq _ (by rw [limb_lt hk]; exact List.getElem_mem hk)
  unfold nxA at h
  split at h
  · unfold escA at h
    split at h
    · rename_i hl
      split at h
      · injection h with h; injection h with h1 h2; subst h1; unfold ScQ; omega
      · split at h
        · injection h with h; injection h with h1 h2; subst h1; unfold ScQ; omega
        · split at h
          · injection h with h; injection h with h1 h2; subst h1; unfold ScQ; omega
          · split at h
            · injection h with h; injection h with h1 h2; subst h1; exact hm _ hl
            · split at h
              · exact numA_sc hq h
              · cases h
    · cases h
  · injection h with h; injection h with h1 h2; subst h1; exact hm _ hi

/-- A word as a value. -/
def wdV (x : Wd) (lv : Value) : Value := .agg #[.int .i64 (x.kind : Nat), .string (mkB x.txt), .int .i64 (x.d.k : Nat), .string (mkB x.d.t), .bool x.d.n, lv, .slice none 0 0, .int .i64 (x.dat : Nat), .int .i64 (x.pl : Nat)]
/-- What a method answers that passes a word or gives up. -/
def WPost (o : Option (Wd × Nat)) (g : Nat) (sv : Value) (cs : List Nat) (f : Nat) (w : World) (e : Ending) (w' : World) : Prop :=
  Ks g w w' ∧ ((∃ x j lv, o = some (x, j) ∧ e = .returned (wdV x lv) ∧ Sl .u32 w' lv x.d.r ∧ Sc w' g sv cs f j) ∨ (o = none ∧ e = .panicked (flt f)))
theorem WPost.yes {o : Option (Wd × Nat)} {g : Nat} {sv : Value} {cs : List Nat} {f j : Nat} {x : Wd} {lv v : Value} {w w' : World} (h : o = some (x, j)) (hv : v = wdV x lv) (hk : Ks g w w') (hl : Sl .u32 w' lv x.d.r) (hs : Sc w' g sv cs f j) : WPost o g sv cs f w (.returned v) w' :=
  ⟨hk, .inl ⟨x, j, lv, h, by rw [hv], hl, hs⟩⟩
theorem WPost.no {o : Option (Wd × Nat)} {g : Nat} {sv : Value} {cs : List Nat} {f : Nat} {w w' : World} (h : o = none) (hk : Ks g w w') : WPost o g sv cs f w (.panicked (flt f)) w' :=
  ⟨hk, .inr ⟨h, rfl⟩⟩
end Go.Proofs.YtpahfhjgcflifaaGreatDoor
