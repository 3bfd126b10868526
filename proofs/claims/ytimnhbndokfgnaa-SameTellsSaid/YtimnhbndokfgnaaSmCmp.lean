/- The looker: which two it may look into. -/
import Derived.Test.YtimnhbndokfgnaaSmEqv
namespace Go.Proofs.Ytimnhbndokfgnaa
open Go.RowKit

/-- May their slots be looked at? -/
def St.compA (s : St) (a b : Int × Int) : Bool := decide (1 ≤ s.kind a ∧ s.kind a ≤ 4 ∧ s.kind b = s.kind a ∧ s.len a = s.len b)
theorem compA_no {s : St} {a b : Int × Int} (h : ¬ (1 ≤ s.kind a ∧ s.kind a ≤ 4)) : s.compA a b = false := by unfold St.compA; rw [decide_eq_false_iff_not]; intro hn; exact h ⟨hn.1, hn.2.1⟩
theorem compA_kind {s : St} {a b : Int × Int} (h : s.kind b ≠ s.kind a) : s.compA a b = false := by unfold St.compA; rw [decide_eq_false_iff_not]; intro hn; exact h hn.2.2.1
theorem compA_len {s : St} {a b : Int × Int} (h : s.len a ≠ s.len b) : s.compA a b = false := by unfold St.compA; rw [decide_eq_false_iff_not]; intro hn; exact h hn.2.2.2
theorem compA_yes {s : St} {a b : Int × Int} (h1 : 1 ≤ s.kind a) (h2 : s.kind a ≤ 4) (h3 : s.kind b = s.kind a) (h4 : s.len a = s.len b) : s.compA a b = true := by unfold St.compA; rw [decide_eq_true_iff]; exact ⟨h1, h2, h3, h4⟩

set_option maxRecDepth 100000 in
set_option maxHeartbeats 4000000 in
theorem comparable_no (g lb : Nat) (R : Nat → Nat) (s : St) (a b : Int × Int) (w : World) (h : StW w g R s) (hlb : lb < w.heap.size) (hc : w.cell? ⟨lb, 0, none⟩ = some (.pointer (some ⟨g, 0, none⟩))) (hkn : ¬ (1 ≤ s.kind a ∧ s.kind a ≤ 4)) :
    Calls Try.prog 84 #[.pointer (some ⟨lb, 0, none⟩), .agg #[.int .i64 a.1, .int .i64 a.2, .int .i64 b.1, .int .i64 b.2]] w fun e w' => e = .returned (.bool (s.compA a b)) ∧ Below w.heap.size w w' := by
  have HS := Lib.hid h
  have HB1 := Lib.hid (below1 w (.cells #[.int .i64 a.1, .int .i64 a.2, .int .i64 b.1, .int .i64 b.2] 126))
  have n0 := box1 w #[.int .i64 a.1, .int .i64 a.2, .int .i64 b.1, .int .i64 b.2] 126
  have HN0 := Lib.hid n0
  obtain ⟨p0, p1, p2, p3⟩ := row4 n0
  have c0 := (HB1.out.cell (p := ⟨lb, 0, none⟩) hlb).trans hc
  have HC := Lib.hid hc
  have HLB := Lib.hid hlb
  obtain ⟨ka, hka⟩ : ∃ ka, ka = s.kind a := ⟨_, rfl⟩
  obtain ⟨kb, hkb⟩ : ∃ kb, kb = s.kind b := ⟨_, rfl⟩
  obtain ⟨la, hla⟩ : ∃ la, la = s.len a := ⟨_, rfl⟩
  obtain ⟨nb, hnb⟩ : ∃ nb, nb = s.len b := ⟨_, rfl⟩
  have HKA : Hid (∀ W, StW W g R s → Calls Try.prog 26 #[.pointer (some ⟨g, 0, none⟩), .agg #[.int .i64 a.1, .int .i64 a.2]] W fun e w' => e = .returned (.int .i64 ka) ∧ Below W.heap.size W w') := Lib.hid fun W hW => by rw [hka]; exact stkind_any g R s a W hW
  have HKB : Hid (∀ W, StW W g R s → Calls Try.prog 26 #[.pointer (some ⟨g, 0, none⟩), .agg #[.int .i64 b.1, .int .i64 b.2]] W fun e w' => e = .returned (.int .i64 kb) ∧ Below W.heap.size W w') := Lib.hid fun W hW => by rw [hkb]; exact stkind_any g R s b W hW
  have HLA : Hid (∀ W, StW W g R s → Calls Try.prog 27 #[.pointer (some ⟨g, 0, none⟩), .agg #[.int .i64 a.1, .int .i64 a.2]] W fun e w' => e = .returned (.int .i64 ((la : Nat) : Int)) ∧ Below W.heap.size W w') := Lib.hid fun W hW => by rw [hla]; exact stlen_any g R s a W hW
  have HNB : Hid (∀ W, StW W g R s → Calls Try.prog 27 #[.pointer (some ⟨g, 0, none⟩), .agg #[.int .i64 b.1, .int .i64 b.2]] W fun e w' => e = .returned (.int .i64 ((nb : Nat) : Int)) ∧ Below W.heap.size W w') := Lib.hid fun W hW => by rw [hnb]; exact stlen_any g R s b W hW
  have HEKA := Lib.hid hka
  have HEKB := Lib.hid hkb
  have HELA := Lib.hid hla
  have HELB := Lib.hid hnb
  clear h n0 hc hka hkb hla hnb hlb
  go_enter Try.func84, Try.ntmps84
  go_upto_region 1 with fail
  generalize w.alloc (.cells #[.int .i64 a.1, .int .i64 a.2, .int .i64 b.1, .int .i64 b.2] 126) = w1 at *
  go_region_with (go_at_call 26; refine (HKA.out _ (HS.out.below HB1.out.drew)).mono ?_; rintro e w2 ⟨rfl, hb2⟩)
  all_goals
    have HB2 := Lib.hid (HB1.out.drew.trans (hb2.mono HB1.out.size))
    have n2 := (hb2.block w.heap.size (Array.getElem?_eq_some_iff.1 HN0.out).1).trans HN0.out
    have HN2 := Lib.hid n2
    obtain ⟨p0, p1, p2, p3⟩ := row4 n2
    have c0 := (HB2.out.cell (p := ⟨lb, 0, none⟩) HLB.out).trans HC.out
    clear hb2 n2
    have hk : ¬ (1 ≤ ka ∧ ka ≤ 4) := by rw [HEKA.out]; exact hkn
    have h1 : (ka == 1) = false := by rw [beq_eq_false_iff_ne]; omega
    have h2 : (ka == 2) = false := by rw [beq_eq_false_iff_ne]; omega
    have h3 : (ka == 3) = false := by rw [beq_eq_false_iff_ne]; omega
    have h4 : (ka == 4) = false := by rw [beq_eq_false_iff_ne]; omega
    have HK := Lib.hid hk
    clear hk
    go_wp2_with fail
    go_ret
    exact ⟨ret_bl (compA_no (by rw [← HEKA.out]; exact HK.out)).symm, HB2.out⟩
end Go.Proofs.Ytimnhbndokfgnaa
