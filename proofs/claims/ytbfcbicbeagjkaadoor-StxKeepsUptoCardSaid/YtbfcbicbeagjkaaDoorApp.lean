/- utf.Decode | Scalar, of both | Blank, Ends, of both | ref.Bytes, ref.one | Characters of parts of bytes, and of bytes of characters. No walk here. | ref.Chars, ref.Decode | append of a slice that reads as numbers, nil or not, onto a row of one's own. | A slice of bytes as a string. -/
import Derived.Test.YtbfcbicbeagjkaaDoorUMath
import Derived.Test.YtbfcbicbeagjkaaDoorMem
import Derived.LoopTactic
import Derived.Laws.AppendOwnNone
import Derived.Test.YtbfcbicbeagjkaaDoorBase
import Derived.Laws.BytesArg
namespace Go.Proofs.YtbfcbicbeagjkaaDoor
open Go.RowKit

theorem infoInt : (Tryd.prog.info? 3).map (fun i => (i.zero, i.size, i.bytes)) = some (some (.int .i64 0), 1, 8) := by kernel_rfl

/-- The two tables of package utf8. -/
def Tabs (w : World) : Prop := Lib.Utf8Tabs 0 1 w
theorem Tabs.below {w w' : World} (h : Tabs w) {B : Nat} (hb : Below B w w') (hB : w.heap.size ≤ B) : Tabs w' := by
  obtain ⟨h1, h2⟩ := h
  refine ⟨fun c hc => ?_, fun i hi => ⟨?_, ?_⟩⟩
  · rw [hb.cell (p := ⟨_, c, none⟩) (Nat.lt_of_lt_of_le (World.block_lt_of_cell? w _ (h1 c hc)) hB)]; exact h1 c hc
  · rw [hb.cell (p := ⟨_, 2 * i, none⟩) (Nat.lt_of_lt_of_le (World.block_lt_of_cell? w _ (h2 i hi).1) hB)]; exact (h2 i hi).1
  · rw [hb.cell (p := ⟨_, 2 * i + 1, none⟩) (Nat.lt_of_lt_of_le (World.block_lt_of_cell? w _ (h2 i hi).2) hB)]; exact (h2 i hi).2

theorem decrune_any (b off cap i : Nat) (bs : List Nat) (w : World) (ht : Tabs w) (hi : i < bs.length) (hby : By bs) (hc : ∀ j, j < bs.length → w.cell? ⟨b, off + j, none⟩ = some (.int .u8 ((limb bs j : Nat) : Int))) :
    Calls Tryd.prog 80 #[.slice (some ⟨b, off + i, none⟩) (bs.length - i) cap] w fun e w' => e = .returned (.tuple #[.int .i32 ((dc bs i).1 : Nat), .int .i64 ((dc bs i).2 : Nat)]) ∧ Below w.heap.size w w' := by
  have h := Any7.utf8_DecodeRune Tryd.laysDR (mkB (bs.drop i)) b (off + i) cap w ht (fun j hj => by
    rw [mkB_size, List.length_drop] at hj
    rw [mkB_get (hby.drop i), limb_drop, Nat.add_assoc]
    exact hc (i + j) (by omega))
  rw [mkB_size, List.length_drop, mkB_dec hby hi] at h
  exact h

set_option maxRecDepth 100000 in
theorem broken_any (c n : Nat) (w : World) (_hc : c ≤ 1114111) (_hn : n ≤ 4) :
    Calls Tryd.prog 81 #[.int .i32 (c : Int), .int .i64 (n : Int)] w fun e w' => e = .returned (.bool (badB (c, n))) ∧ w = w' := by
  have hv : badB (c, n) = (((c : Int) == 65533) && decide ((n : Int) < 3)) := by
    unfold badB
    rw [Bool.eq_iff_iff]
    simp only [decide_eq_true_iff, Bool.and_eq_true, beq_iff_eq]
    omega
  by_cases h1 : c = 65533
  · have hb : ((c : Int) == 65533) = true := by rw [beq_iff_eq]; omega
    have HV := Lib.hid hv
    clear hv h1
    go_enter Tryd.func81, Tryd.ntmps81
    go_wp2
    go_ret
    exact ⟨ret_bl (by rw [HV.out, hb]; rfl), rfl⟩
  · have hb : ((c : Int) == 65533) = false := by rw [beq_eq_false_iff_ne]; omega
    have HV := Lib.hid hv
    clear hv h1
    go_enter Tryd.func81, Tryd.ntmps81
    go_wp2
    go_ret
    exact ⟨ret_bl (by rw [HV.out, hb]; rfl), rfl⟩

theorem owns_below {w w' : World} {base n size : Nat} {e : TypeId} {v : Value} {xs : List Value} (h : w.ownsRow base e size v n xs) (hb : Below w.heap.size w w') : w'.ownsRow base e size v n xs :=
  h.kept (row := none) ⟨hb.os, hb.tape, hb.output, hb.size, fun k hk _ => hb.block k hk⟩ (by cases v.ownBlock <;> simp)

/-- What Decode answers. -/
def DecPost (bs : List Nat) (w : World) (e : Ending) (w' : World) : Prop :=
  ∃ v, e = .returned (.tuple #[v, .int .i64 ((decA bs).2.1 : Nat), .int .i64 ((decA bs).2.2 : Nat)]) ∧ Sl .i64 w' v (decA bs).1 ∧ Below w.heap.size w w'
theorem DecPost.mk {bs : List Nat} {w w' : World} {v : Value} {cs : List Nat} {k e : Nat} (h : decA bs = (cs, k, e)) (hs : Sl .i64 w' v cs) (hb : Below w.heap.size w w') : DecPost bs w (.returned (.tuple #[v, .int .i64 (k : Nat), .int .i64 (e : Nat)])) w' := by
  refine ⟨v, by rw [h], by rw [h]; exact hs, hb⟩
theorem Sl.nil' (k : IntKind) (w : World) : Sl k w (.slice none 0 0) [] := ⟨by simp, none, 0, rfl, by simp, .inl ⟨rfl, fun _ => rfl⟩⟩

set_option maxRecDepth 100000 in
set_option maxHeartbeats 1000000 in
theorem decode_any (sv : Value) (bs : List Nat) (w : World) (hs : Sl .u8 w sv bs) (hby : By bs) (ht : Tabs w) :
    Calls Tryd.prog 72 #[sv] w (DecPost bs w) := by
  obtain ⟨i0, hi, hz0, hz1, hz2⟩ := info_parts infoInt
  have HS := Lib.hid hs
  obtain ⟨hm, ao, cap, rfl, hcap, h⟩ := hs
  unfold maxLen at hm
  have HT := Lib.hid ht; clear ht
  have HY := Lib.hid hby; clear hby
  rcases (by omega : 65536 < bs.length ∨ bs.length ≤ 65536) with hl | hl
  · have hd : decide ((65536 : Int) < (bs.length : Int)) = true := by simp; omega
    have HL := Lib.hid hl; clear hl h
    go_enter Tryd.func72, Tryd.ntmps72
    go_wp2
    go_ret3
    exact DecPost.mk (e := 6) (k := 0) (decA_large HL.out) (Sl.nil' _ _) (Below.refl _ _)
  · have hd : decide ((65536 : Int) < (bs.length : Int)) = false := by simp; omega
    have HC : Hid (∀ j, j < bs.length → ∃ b off, ao = some ⟨b, off, none⟩ ∧ b < w.heap.size ∧ ∀ j, j < bs.length → w.cell? ⟨b, off + j, none⟩ = some (.int .u8 ((limb bs j : Nat) : Int))) := Lib.hid fun j hj => by
      rcases h with ⟨h, _⟩ | ⟨b, off, h1, h2, h3⟩
      · rw [h] at hj; simp at hj
      · exact ⟨b, off, h1, h2, h3⟩
    clear h
    go_enter Tryd.func72, Tryd.ntmps72
    go_wp2_with fail
    go_loopw [2, 3] (fun v i wr => ∃ cs k, i = .int .i64 (k : Nat) ∧ Chr bs cs k ∧ wr.ownsRow w.heap.size 3 1 v cs.length (cs.map fun (x : Nat) => Value.int .i64 (x : Int)) ∧ Below w.heap.size w wr) (fun _ i _ => bs.length - (intOf i).toNat)
    case atStart => exact ⟨[], 0, rfl, Chr.start bs, World.ownsRow_nil _ _ _ _, Below.refl _ _⟩
    case round =>
      obtain ⟨cs, k, rfl, hchr, hown, hbel⟩ := hrel
      have hk := hchr.le
      have hlen := hchr.len
      by_cases hkn : k < bs.length
      · obtain ⟨b, off, hao, hb, hc⟩ := HC.out k hkn
        subst hao
        have HCW : Hid (∀ j, j < bs.length → wr.cell? ⟨b, off + j, none⟩ = some (.int .u8 ((limb bs j : Nat) : Int))) := Lib.hid fun j hj => by
          rw [hbel.cell (p := ⟨b, off + j, none⟩) hb]; exact hc j hj
        clear hc
        have HCH := Lib.hid hchr; clear hchr
        have hkc : k < cap := by omega
        have hz := dc_size bs k
        have hch := dc_char bs k
        have hin := dc_in hkn
        go_wp2_with fail
        refine (decrune_any b off (cap - k) k bs wr (HT.out.below hbel (Nat.le_refl _)) hkn HY.out HCW.out).mono ?_
        rintro e w1 ⟨rfl, hb1⟩
        go_wp2_with fail
        refine (broken_any (dc bs k).1 (dc bs k).2 _ hch hz.2).mono ?_
        rintro e w2 ⟨rfl, rfl⟩
        have hbw : Below w.heap.size w w1 := hbel.trans (hb1.mono hbel.size)
        have HOW := Lib.hid (owns_below hown hb1)
        cases hbad : badB ((dc bs k).1, (dc bs k).2)
        · have HB := Lib.hid hbad; clear hbad hb1 hown
          have hl2 : cs.length < 1000000 := by omega
          have HI := Lib.hid (HCH.out.step hkn HB.out)
          have hsz := hbw.size
          go_wp2_with (at_builtin; go_loud (refine wpList_append_own _ rfl _ _ 26 rfl w.heap.size 3 i0 (.int .i64 0) 1 8 Tryd.underlying26 hi hz0 hz1 hz2 rfl (by decide) _ cs.length (cs.map fun (x : Nat) => Value.int .i64 (x : Int)) rfl (HOW.out.alloc _) ⟨w1.heap.size, 0, none⟩ 1 1 [.int .i64 ((dc bs k).1 : Nat)] rfl (by simp) (cell_one_new _ _ _) (by intro u hu; rw [List.mem_singleton] at hu; subst hu; rfl) (by unfold maxLen; omega) (by omega) (by simp; omega) ?_); intro v' w2 hown1 hgrow hnil; clear hnil)
          go_roundw
          case rel =>
            have e1 : (List.map (fun (x : Nat) => Value.int .i64 (x : Int)) cs ++ [.int .i64 ((dc bs k).1 : Nat)]) = (cs ++ [(dc bs k).1]).map fun (x : Nat) => Value.int .i64 (x : Int) := by simp
            have e2 : cs.length + 1 = (cs ++ [(dc bs k).1]).length := by simp
            rw [e1, e2] at hown1
            have hlo := HOW.out.lt
            have hgrow' : World.grownBy _ w2 (Value.ownBlock _) := hgrow
            exact ⟨cs ++ [(dc bs k).1], k + (dc bs k).2, by go_num, HI.out, hown1, (hbw.alloc hbw.size _).grown hgrow' (by simp; omega) (fun k hk => by have := (hlo k hk).1; omega)⟩
          case measure => simp only [intOf]; omega
        · have HB := Lib.hid hbad; clear hbad hb1 hown
          go_wp2
          go_ret3
          exact DecPost.mk (e := 4) (k := k) (decA_bad hl (HCH.out.bad hkn HB.out)) (Sl.nil' _ _) hbw
      · obtain hkl : bs.length ≤ k := by omega
        have HD := Lib.hid (hchr.done hkl); clear hchr
        have hsl := owns_sl hown
        clear hown
        go_wp2
        go_ret3
        exact DecPost.mk (e := 0) (k := 0) (decA_ok hl HD.out) hsl hbel
end Go.Proofs.YtbfcbicbeagjkaaDoor
namespace Go.Proofs.YtbfcbicbeagjkaaDoor
open Go.RowKit

def blB (c : Int) : Bool := decide (c = 9 ∨ c = 10 ∨ c = 13 ∨ c = 32)
def enB (c : Int) : Bool := decide (c = 40 ∨ c = 41 ∨ c = 59 ∨ c = 34 ∨ c = 39 ∨ c = 96 ∨ c = 44 ∨ c = 9 ∨ c = 10 ∨ c = 13 ∨ c = 32)
end Go.Proofs.YtbfcbicbeagjkaaDoor
namespace Go.Proofs.YtbfcbicbeagjkaaDoor
open Go.RowKit

set_option maxRecDepth 100000 in
theorem blank_any (c : Int) (w : World) : Calls Tryd.prog 88 #[.int .i64 c] w fun e w' => e = .returned (.bool (blB c)) ∧ w = w' := by
  go_enter Tryd.func88, Tryd.ntmps88
  go_wp2
  all_goals
    go_ret
    exact ⟨ret_bl (by unfold blB; rw [Bool.eq_iff_iff]; simp; try omega), rfl⟩
set_option maxRecDepth 100000 in
set_option maxHeartbeats 1000000 in
theorem ends_any (c : Int) (w : World) : Calls Tryd.prog 79 #[.int .i64 c] w fun e w' => e = .returned (.bool (enB c)) ∧ w = w' := by
  go_enter Tryd.func79, Tryd.ntmps79
  go_wp2_with (go_at_call 88; refine (blank_any _ _).mono ?_; rintro e w' ⟨rfl, rfl⟩)
  all_goals
    go_ret
    exact ⟨ret_bl (by unfold enB; (try unfold blB); simp only [beq_iff_eq, beq_eq_false_iff_ne] at *; first | (symm; rw [decide_eq_true_iff]; omega) | (rw [decide_eq_decide]; omega)), rfl⟩
end Go.Proofs.YtbfcbicbeagjkaaDoor
namespace Go.Proofs.YtbfcbicbeagjkaaDoor
open Go.RowKit

/-- A character's bytes. -/
def encN (c : Nat) : List Nat := if c < 128 then [c] else if c < 2048 then [192 + c / 64, 128 + c % 64] else if c < 65536 then [224 + c / 4096, 128 + c / 64 % 64, 128 + c % 64] else [240 + c / 262144, 128 + c / 4096 % 64, 128 + c / 64 % 64, 128 + c % 64]
theorem encN_len (c : Nat) : (encN c).length = blen c := by
  unfold encN blen
  repeat' split
  all_goals rfl
/-- What one answers. -/
def OnePost (bs : List Nat) (i : Nat) (w : World) (e : Ending) (w' : World) : Prop :=
  e = .returned (.tuple #[.int .i64 ((oneA bs i).1 : Nat), .int .i64 ((oneA bs i).2 : Nat)]) ∧ Below w.heap.size w w'
theorem OnePost.none {bs : List Nat} {i : Nat} {w w' : World} (h : oneA bs i = (0, 0)) (hb : Below w.heap.size w w') : OnePost bs i w (.returned (.tuple #[.int .i64 0, .int .i64 0])) w' := by
  refine ⟨by rw [h]; rfl, hb⟩
theorem OnePost.some {bs : List Nat} {i c n : Nat} {w w' : World} (h : oneA bs i = (c, n)) (hb : Below w.heap.size w w') : OnePost bs i w (.returned (.tuple #[.int .i64 (c : Nat), .int .i64 (n : Nat)])) w' := by
  refine ⟨by rw [h], hb⟩

end Go.Proofs.YtbfcbicbeagjkaaDoor
namespace Go.Proofs.YtbfcbicbeagjkaaDoor
open Go.RowKit

theorem limb_takeU (xs : List Nat) (n i : Nat) : limb (xs.take n) i = if i < n then limb xs i else 0 := by
  unfold limb
  simp only [List.getD_eq_getElem?_getD, List.getElem?_take]
  split <;> rfl
theorem By.take {bs : List Nat} (h : By bs) (n : Nat) : By (bs.take n) := fun i => by
  rw [limb_takeU]; split
  · exact h i
  · omega
theorem limb_app (a b : List Nat) (i : Nat) : limb (a ++ b) i = if i < a.length then limb a i else limb b (i - a.length) := by
  unfold limb
  simp only [List.getD_eq_getElem?_getD, List.getElem?_append]
  split <;> rfl
theorem By.app {a b : List Nat} (ha : By a) (hb : By b) : By (a ++ b) := fun i => by
  rw [limb_app]; split
  · exact ha i
  · exact hb _

theorem dc_shift (a b : List Nat) (j : Nat) : dc (a ++ b) (a.length + j) = dc b j := by
  have hq : ∀ t, limb (a ++ b) (a.length + j + t) = limb b (j + t) := fun t => by
    rw [limb_app, if_neg (by omega)]
    congr 1
    omega
  have hq0 := hq 0
  simp only [Nat.add_zero] at hq0
  unfold dc
  rw [hq0, hq 1, hq 2, hq 3]
  congr 1
  simp
  omega
theorem chars_shift (a b : List Nat) : ∀ (m j : Nat), b.length - j ≤ m → chars (a ++ b) (a.length + j) = ((chars b j).1, (chars b j).2.map (fun k => a.length + k)) := by
  intro m
  induction m with
  | zero =>
    intro j hj
    rw [chars_end (by simp; omega), chars_end (by omega)]
    rfl
  | succ m ih =>
    intro j hj
    by_cases hlt : j < b.length
    · have hd := dc_shift a b j
      cases hb : badB (dc b j)
      · have hz := dc_size b j
        rw [chars_step (by simp; omega) (by rw [hd]; exact hb), chars_step hlt hb, hd, Nat.add_assoc, ih _ (by omega)]
      · rw [chars_bad (by simp; omega) (by rw [hd]; exact hb), chars_bad hlt hb]
        rfl
    · rw [chars_end (by simp; omega), chars_end (by omega)]
      rfl
end Go.Proofs.YtbfcbicbeagjkaaDoor
namespace Go.Proofs.YtbfcbicbeagjkaaDoor
open Go.RowKit

/-- What Chars answers. -/
def chA (bs : List Nat) : List Nat × Int := match chars bs 0 with
  | (cs, none) => (cs, -1)
  | (_, some k) => ([], (k : Int))
def CharsPost (bs : List Nat) (w : World) (e : Ending) (w' : World) : Prop :=
  ∃ v, e = .returned (.tuple #[v, .int .i64 (chA bs).2]) ∧ Sl .i64 w' v (chA bs).1 ∧ Below w.heap.size w w'
theorem CharsPost.mk {bs : List Nat} {w w' : World} {v : Value} {cs : List Nat} {z : Int} (h : chA bs = (cs, z)) (hs : Sl .i64 w' v cs) (hb : Below w.heap.size w w') : CharsPost bs w (.returned (.tuple #[v, .int .i64 z])) w' := by
  refine ⟨v, by rw [h], by rw [h]; exact hs, hb⟩

end Go.Proofs.YtbfcbicbeagjkaaDoor
namespace Go.Proofs.YtbfcbicbeagjkaaDoor
open Go.RowKit

/-- A list of numbers as cells. -/
def cellsOf (k : IntKind) (xs : List Nat) : List Value := xs.map fun (x : Nat) => Value.int k (x : Int)
end Go.Proofs.YtbfcbicbeagjkaaDoor
namespace Go.Proofs.YtbfcbicbeagjkaaDoor
open Go.RowKit

end Go.Proofs.YtbfcbicbeagjkaaDoor
