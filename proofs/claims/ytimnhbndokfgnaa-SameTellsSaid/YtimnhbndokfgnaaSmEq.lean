/- The looker's whole, and same.Equal. -/
import Derived.Test.YtimnhbndokfgnaaSmOn
namespace Go.Proofs.Ytimnhbndokfgnaa
open Go.RowKit

def lkMeas (w : World) (lb : Nat) : Nat := match w.cell? ⟨lb, 1, none⟩, w.cell? ⟨lb, 2, none⟩ with
  | some (.int _ f), some (.slice _ n _) => 2 * f.toNat + n
  | _, _ => 0
theorem LkM.meas {w0 w : World} {lb g : Nat} {R : Nat → Nat} {s : St} {f : Nat} {ov : Value} {mb : Nat} {vs : List Vis} {tk : Pr → Option Int} (h : LkM w0 w lb g R s (f : Nat) ov mb vs tk) : lkMeas w lb = 2 * f + vs.length := by
  obtain ⟨ao, cap, rfl⟩ := own_dslice h.row
  obtain ⟨⟨_, c1, c2, _⟩, _⟩ := h.cells
  unfold lkMeas
  rw [c1, c2]
  simp
/-- What whole leaves. -/
def WhP (s : St) (F : Nat) (p : Pr) (w0 : World) (lb : Nat) (e : Ending) (w' : World) : Prop := Below w0.heap.size w0 w' ∧ ((∃ b f, s.rEq F [p] = some (b, f) ∧ e = .returned (.tuple #[.bool b, .int .i64 0]) ∧ w'.cell? ⟨lb, 1, none⟩ = some (.int .i64 ((f : Nat) : Int))) ∨ (s.rEq F [p] = none ∧ e = .returned (.tuple #[.bool false, .int .i64 15])))
/-- What is left by the way. -/
def WhI (w0 : World) (lb g : Nat) (R : Nat → Nat) (s : St) (F : Nat) (p : Pr) (mb : Nat) (b : Bool) (e : Int) (w : World) : Prop :=
  (b = true ∧ e = 0 ∧ ∃ f ov vs tk, LkM w0 w lb g R s (f : Nat) ov mb vs tk ∧ s.Inv F p f vs tk ∧ f + vs.length ≤ 1000000) ∨
  (b = false ∧ e = 0 ∧ ∃ f ov vs tk, s.rEq F [p] = some (false, f) ∧ LkM w0 w lb g R s (f : Nat) ov mb vs tk) ∨
  (b = false ∧ e = 15 ∧ s.rEq F [p] = none ∧ Below w0.heap.size w0 w)

set_option maxRecDepth 100000 in
set_option maxHeartbeats 4000000 in
theorem look_zero (w0 w : World) (lb g : Nat) (R : Nat → Nat) (s : St) (f : Int) (ov : Value) (mb : Nat) (vs : List Vis) (tk : Pr → Option Int) (q : Pr) (h : LkM w0 w lb g R s f ov mb vs tk) (hf : f ≤ 0) :
    Calls Try.prog 79 #[.pointer (some ⟨lb, 0, none⟩), pk q] w fun e w' => e = .returned (.tuple #[.bool false, .int .i64 15]) ∧ Below w0.heap.size w0 w' := by
  obtain ⟨⟨a0, a1⟩, a2, a3⟩ := q
  have HM1 := Lib.hid (h.below (below1 w (.cells #[.int .i64 a0, .int .i64 a1, .int .i64 a2, .int .i64 a3] 126)))
  obtain ⟨⟨c0, c1, c2, c3⟩, z1, z2⟩ := HM1.out.cells
  clear h
  unfold pk
  go_enter Try.func79, Try.ntmps79
  go_wp2_with fail
  go_ret2
  exact ⟨rfl, HM1.out.bel⟩

set_option maxRecDepth 100000 in
set_option maxHeartbeats 4000000 in
theorem whole_zero (w0 w : World) (lb g : Nat) (R : Nat → Nat) (s : St) (f : Int) (ov : Value) (mb : Nat) (vs : List Vis) (tk : Pr → Option Int) (q : Pr) (h : LkM w0 w lb g R s f ov mb vs tk) (hf : f ≤ 0) :
    Calls Try.prog 68 #[.pointer (some ⟨lb, 0, none⟩), pk q] w fun e w' => e = .returned (.tuple #[.bool false, .int .i64 15]) ∧ Below w0.heap.size w0 w' := by
  obtain ⟨⟨a0, a1⟩, a2, a3⟩ := q
  have HM1 := Lib.hid (h.below (below1 w (.cells #[.int .i64 a0, .int .i64 a1, .int .i64 a2, .int .i64 a3] 126)))
  have hn := box1 w #[.int .i64 a0, .int .i64 a1, .int .i64 a2, .int .i64 a3] 126
  obtain ⟨p0, p1, p2, p3⟩ := row4 hn
  clear h hn
  unfold pk
  go_enter Try.func68, Try.ntmps68
  go_wp2_with fail
  refine (look_zero w0 _ lb g R s f ov mb vs tk ((a0, a1), (a2, a3)) HM1.out hf).mono ?_
  rintro e w2 ⟨rfl, hb2⟩
  clear p0 p1 p2 p3
  go_wp2_with fail
  go_loopw [6, 7] (fun b e wr => b = .bool false ∧ e = .int .i64 15 ∧ Below w0.heap.size w0 wr) (fun _ _ _ => 0)
  case atStart => exact ⟨rfl, rfl, hb2⟩
  case round =>
    obtain ⟨rfl, rfl, hb⟩ := hrel
    go_wp2_with fail
    go_ret2
    exact ⟨rfl, hb⟩

set_option maxRecDepth 100000 in
set_option maxHeartbeats 4000000 in
theorem whole_any (w0 w : World) (lb g : Nat) (R : Nat → Nat) (s : St) (F : Nat) (mb : Nat) (q : Pr) (h : LkM w0 w lb g R s (F : Nat) (.slice none 0 0) mb [] fun _ => none) (hFF : F ≤ 1000000) :
    Calls Try.prog 68 #[.pointer (some ⟨lb, 0, none⟩), pk q] w fun e w' => WhP s F q w0 lb e w' := by
  have HFF := Lib.hid hFF
  obtain ⟨⟨a0, a1⟩, a2, a3⟩ := q
  have HM1 := Lib.hid (h.below (below1 w (.cells #[.int .i64 a0, .int .i64 a1, .int .i64 a2, .int .i64 a3] 126)))
  have hn := box1 w #[.int .i64 a0, .int .i64 a1, .int .i64 a2, .int .i64 a3] 126
  obtain ⟨p0, p1, p2, p3⟩ := row4 hn
  clear h hn hFF
  unfold pk
  go_enter Try.func68, Try.ntmps68
  go_wp2_with fail
  refine (look_any w0 _ lb g R s F ((a0, a1), (a2, a3)) ((a0, a1), (a2, a3)) F _ mb [] _ HM1.out (.start s F _) (by have := HFF.out; simp; omega)).mono ?_
  intro e w2 hl
  clear p0 p1 p2 p3
  obtain ⟨b2, e2, rfl, hi2⟩ : ∃ b2 e2, e = .returned (.tuple #[.bool b2, .int .i64 e2]) ∧ WhI w0 lb g R s F ((a0, a1), (a2, a3)) mb b2 e2 w2 := by
    rcases hl with ⟨rfl, f2, hf2, hm2, hi2⟩ | ⟨rfl, f2, ov2, hf2, hm2, hi2⟩ | ⟨rfl, f2, hr2, hm2⟩ | ⟨rfl, hr2, hb2⟩
    · exact ⟨_, _, rfl, .inl ⟨rfl, rfl, _, _, _, _, hm2, hi2, by have := HFF.out; simp; omega⟩⟩
    · exact ⟨_, _, rfl, .inl ⟨rfl, rfl, _, _, _, _, hm2, hi2, by have := HFF.out; simp; omega⟩⟩
    · exact ⟨_, _, rfl, .inr (.inl ⟨rfl, rfl, _, _, _, _, hr2, hm2⟩)⟩
    · exact ⟨_, _, rfl, .inr (.inr ⟨rfl, rfl, hr2, hb2⟩)⟩
  clear hl
  have HI2 := Lib.hid hi2
  clear hi2
  go_wp2_with fail
  go_loopw [6, 7] (fun b e wr => ∃ b' e', b = .bool b' ∧ e = .int .i64 e' ∧ WhI w0 lb g R s F ((a0, a1), (a2, a3)) mb b' e' wr) (fun b _ wr => match b with | .bool true => lkMeas wr lb + 1 | _ => 0)
  case atStart => exact ⟨_, _, rfl, rfl, HI2.out⟩
  case round =>
    obtain ⟨b', e', rfl, rfl, hi⟩ := hrel
    rcases hi with ⟨rfl, rfl, f, ov, vs, tk, hm, hi, hb⟩ | ⟨rfl, rfl, f, ov, vs, tk, hr, hm⟩ | ⟨rfl, rfl, hr, hbl⟩
    · obtain ⟨ao, cap, rfl⟩ := own_dslice hm.row
      have HM := Lib.hid hm
      have HI := Lib.hid hi
      have HB := Lib.hid hb
      obtain ⟨⟨c0, c1, c2, c3⟩, z1, z2⟩ := hm.cells
      have HME := Lib.hid hm.meas
      clear hm hi
      cases vs with
      | nil =>
        simp only [List.length_nil] at c2
        go_wp2_with fail
        go_ret2
        exact ⟨HM.out.bel, .inl ⟨true, f, HI.out.all, rfl, c1⟩⟩
      | cons v vs =>
        simp only [List.length_cons] at c2
        have hl2 : ((vs.length + 1 : Nat) : Int) > 0 := by omega
        go_wp2_with fail
        refine (onward_any w0 wr lb g R s F ((a0, a1), (a2, a3)) f _ mb v vs tk HM.out HI.out HB.out HFF.out).mono ?_
        intro e w3 hl
        obtain ⟨b3, e3, rfl, hi3, hme⟩ : ∃ b3 e3, e = .returned (.tuple #[.bool b3, .int .i64 e3]) ∧ WhI w0 lb g R s F ((a0, a1), (a2, a3)) mb b3 e3 w3 ∧ (b3 = true → lkMeas w3 lb < lkMeas wr lb) := by
          rw [HME.out]
          rcases hl with ⟨rfl, f2, ov2, vs2, tk2, hf2, hg2, hm2, hi2⟩ | ⟨rfl, f2, ov2, vs2, tk2, hr2, hm2⟩ | ⟨rfl, hr2, hb2⟩
          · refine ⟨_, _, rfl, .inl ⟨rfl, rfl, _, _, _, _, hm2, hi2, by have := HB.out; simp at this; omega⟩, fun _ => ?_⟩
            rw [hm2.meas]
            simp; omega
          · exact ⟨_, _, rfl, .inr (.inl ⟨rfl, rfl, _, _, _, _, hr2, hm2⟩), fun h => by cases h⟩
          · exact ⟨_, _, rfl, .inr (.inr ⟨rfl, rfl, hr2, hb2⟩), fun h => by cases h⟩
        have HI3 := Lib.hid hi3
        have HME3 := Lib.hid hme
        clear hl hi3 hme c0 c1 c2 c3 z1 z2
        go_wp2_with fail
        go_roundw
        case measure =>
          cases b3 with
          | true => have := HME3.out rfl; simp only; omega
          | false => simp only; omega
        case rel => exact ⟨_, _, rfl, rfl, HI3.out⟩
    · go_wp2_with fail
      go_ret2
      exact ⟨hm.bel, .inl ⟨false, f, hr, rfl, hm.cells.1.2.1⟩⟩
    · go_wp2_with fail
      go_ret2
      exact ⟨hbl, .inr ⟨hr, rfl⟩⟩

/-- What Equal answers. -/
def eqR : Option (Bool × Nat) → Value
  | some (b, f) => .tuple #[.bool b, .int .i64 ((f : Nat) : Int), .int .i64 0]
  | none => .tuple #[.bool false, .int .i64 0, .int .i64 15]

set_option maxRecDepth 100000 in
set_option maxHeartbeats 4000000 in
theorem equal_any (g : Nat) (R : Nat → Nat) (s : St) (a b : Int × Int) (f : Int) (w : World) (h : StW w g R s) (hf : f ≤ 1000000) :
    Calls Try.prog 30 #[.pointer (some ⟨g, 0, none⟩), .agg #[.int .i64 a.1, .int .i64 a.2], .agg #[.int .i64 b.1, .int .i64 b.2], .int .i64 f] w fun e w' => e = .returned (eqR (s.rEq f.toNat [(a, b)])) ∧ Below w.heap.size w w' := by
  have HS := Lib.hid h
  have HF := Lib.hid hf
  have hmm := @run_makeMap Try.prog
  have HB2 := Lib.hid (below2 w (.cells #[.int .i64 a.1, .int .i64 a.2] 35) (.cells #[.int .i64 b.1, .int .i64 b.2] 35))
  obtain ⟨n0, n1⟩ := @news2 w (.cells #[.int .i64 a.1, .int .i64 a.2] 35) (.cells #[.int .i64 b.1, .int .i64 b.2] 35)
  have HN0 := Lib.hid n0
  have HN1 := Lib.hid n1
  clear h hf n0 n1
  go_enter Try.func30, Try.ntmps30
  go_upto_region 1 with fail
  generalize (w.alloc (.cells #[.int .i64 a.1, .int .i64 a.2] 35)).alloc (.cells #[.int .i64 b.1, .int .i64 b.2] 35) = w1 at *
  have hl1 : w.heap.size + 1 < w1.heap.size := (Array.getElem?_eq_some_iff.1 HN1.out).1
  have HL1 := Lib.hid hl1
  clear hl1
  go_upto_region 2 with fail
  have hM : LkM w1 ((w1.alloc (.map #[] 0)).alloc (.cells #[.pointer (some ⟨g, 0, none⟩), .int .i64 f, .slice none 0 0, .map (some w1.heap.size)] 122)) (w1.heap.size + 1) g R s f (.slice none 0 0) w1.heap.size [] fun _ => none := by
    have hb := below2 w1 (.map #[] 0) (.cells #[.pointer (some ⟨g, 0, none⟩), .int .i64 f, .slice none 0 0, .map (some w1.heap.size)] 122)
    have hs1 := HS.out.below HB2.out
    have h0 : ∀ b, w1.heap.size ≤ b → R b = 0 := fun b hb => Classical.byContradiction fun hn => by have := hs1.lt b hn; omega
    refine ⟨hs1.below hb, hb, news2.2, by omega, h0 _ (by omega), World.ownsRow_nil _ _ _ _, fun b hb => (by cases hb), Nat.le_refl _, h0 _ (Nat.le_refl _), by omega, ?_⟩
    refine (MapT.new w1).move ?_
    exact Below.heap_alloc _ _ _ (by simp)
  have HM := Lib.hid hM
  have HB4 := Lib.hid (HB2.out.trans (hM.bel.mono HB2.out.size))
  have hn0 := (hM.bel.block w.heap.size (by have := HL1.out; omega)).trans HN0.out
  have hn1 := (hM.bel.block (w.heap.size + 1) HL1.out).trans HN1.out
  obtain ⟨p0, p1, _⟩ := row2 hn0
  obtain ⟨q0, q1, _⟩ := row2 hn1
  clear hM hn0 hn1
  generalize (w1.alloc (.map #[] 0)).alloc (.cells #[.pointer (some ⟨g, 0, none⟩), .int .i64 f, .slice none 0 0, .map (some w1.heap.size)] 122) = w2 at *
  by_cases hz : f ≤ 0
  · have hr : s.rEq f.toNat [(a, b)] = none := by rw [Int.toNat_of_nonpos hz]; rfl
    have HR := Lib.hid hr
    have HZ := Lib.hid hz
    clear hz hr
    go_wp2_with fail
    refine (whole_zero w1 w2 _ g R s f _ _ [] _ (a, b) HM.out HZ.out).mono ?_
    rintro e w3 ⟨rfl, hb3⟩
    clear p0 p1 q0 q1
    go_wp2_with fail
    go_ret3
    rw [HR.out]
    exact ⟨rfl, HB2.out.trans (hb3.mono HB2.out.size)⟩
  · obtain ⟨F, rfl⟩ : ∃ F : Nat, f = (F : Int) := ⟨f.toNat, by omega⟩
    have HF2 : Hid (F ≤ 1000000) := Lib.hid (by have := HF.out; omega)
    clear hz
    go_wp2_with fail
    refine (whole_any w1 w2 _ g R s F _ (a, b) HM.out HF2.out).mono ?_
    rintro e w3 ⟨hb3, ⟨r, f2, hr, rfl, hc⟩ | ⟨hr, rfl⟩⟩
    · have HR := Lib.hid hr
      have HB := Lib.hid hb3
      clear p0 p1 q0 q1 hr hb3
      go_wp2_with fail
      go_region
      go_wp2_with fail
      go_ret3
      rw [Int.toNat_natCast, HR.out]
      exact ⟨rfl, (HB2.out.trans (HB.out.mono HB2.out.size)).drew⟩
    · clear p0 p1 q0 q1
      go_wp2_with fail
      go_ret3
      rw [Int.toNat_natCast, hr]
      exact ⟨rfl, HB2.out.trans (hb3.mono HB2.out.size)⟩
end Go.Proofs.Ytimnhbndokfgnaa
