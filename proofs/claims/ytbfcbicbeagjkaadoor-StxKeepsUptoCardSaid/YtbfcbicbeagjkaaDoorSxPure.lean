/- slices.Clone of limbs, ints and pieces; stx.number, stx.datum: a piece's datum with memory of its own. | law10's symbols: is a Symbol in a piece? | ref.Same of any two datums. | Three wraps around one another are the same, whichever two are joined first. No walk here. | What a wrap around, opening and flattening make of a piece, and which pieces mean the same. No walk here. -/
import Derived.Test.YtbfcbicbeagjkaaDoorSxMath
import Derived.Test.YtbfcbicbeagjkaaDoorSxFew
import Derived.Test.YtbfcbicbeagjkaaDoorSxEq
import Derived.Test.YtbfcbicbeagjkaaDoorDmOwnP
import Derived.Test.YtbfcbicbeagjkaaDoorTkAtom
import Derived.Test.YtbfcbicbeagjkaaDoorOrdL
import Derived.Test.YtbfcbicbeagjkaaDoorSxLight
import Derived.Test.YtbfcbicbeagjkaaDoorDm
import Derived.Test.YtbfcbicbeagjkaaDoorRdMath
import Derived.Test.YtbfcbicbeagjkaaDoorTkLit
import Derived.StillTailTactics
import Derived.Test.YtbfcbicbeagjkaaDoorTkSc
namespace Go.Proofs.YtbfcbicbeagjkaaDoor
open Go.RowKit

theorem infoU3c : (Tryd.prog.info? 55).map (fun i => (i.zero, i.size, i.bytes)) = some (some (.int .u32 0), 1, 4) := by kernel_rfl
theorem ucs_one (l : List Nat) : ∀ u ∈ ucs l, u.oneCell' = true := by intro u hu; obtain ⟨_, _, rfl⟩ := List.mem_map.1 hu; rfl

set_option maxRecDepth 100000 in
set_option maxHeartbeats 1000000 in
theorem sclu_any (lv : Value) (n : Nat) (us : List Value) (w : World) (hr : RowV w lv n 1 us) (h1 : ∀ u ∈ us, u.oneCell' = true) (hl : n ≤ 2000000) :
    Calls Tryd.prog 53 #[lv] w fun e w' => ∃ v', e = .returned v' ∧ w'.ownsRow w.heap.size 55 1 v' n us ∧ Below w.heap.size w w' := by
  obtain ⟨i0, hi, hz0, hz1, hz2⟩ := info_parts infoU3c
  have q22 : ∀ (w : World) (a : Option Addr) (n c n' c' : Nat), (binOp .eql 22 (.slice a n c) (.slice none n' c')).run Tryd.prog w = .ok (.bool a.isNone) w := fun w a n c n' c' => Lib.run_eql_slice_nil w _ _ a n c n' c' Tryd.underlying22
  have HR := Lib.hid hr
  obtain ⟨hlen, _, ao, cap, rfl, _, hcase⟩ := hr
  cases ao with
  | none =>
    obtain ⟨rfl, rfl⟩ : n = 0 ∧ cap = 0 := by
      rcases hcase with ⟨h2, h3⟩ | ⟨_, _, h2, _⟩
      · exact ⟨h2, h3 rfl⟩
      · cases h2
    obtain rfl : us = [] := List.eq_nil_of_length_eq_zero (by simpa using hlen)
    clear hcase hlen
    go_enter Tryd.func53, Tryd.ntmps53
    go_wp2_with fail
    go_ret
    exact ⟨_, rfl, World.ownsRow_nil _ _ _ _, Below.refl _ _⟩
  | some ad =>
    clear hcase hlen
    go_enter Tryd.func53, Tryd.ntmps53
    go_wp2_with (at_builtin; (refine wpList_append_row _ rfl _ _ 22 rfl w.heap.size 55 i0 _ 1 4 Tryd.underlying22 hi hz0 hz1 hz2 rfl (by decide) _ 0 [] rfl (emp_row w 55) _ n us rfl (HR.out.below (below1 w _)) h1 (by unfold maxLen; omega) (by omega) (by simp) ?_); intro v' w1 hown1 hgrow hmv; rw [Nat.zero_add, List.nil_append] at hown1; have HO := Lib.hid hown1; have HG := Lib.hid hgrow; clear hown1 hgrow hmv)
    go_ret
    exact ⟨_, rfl, HO.out, (below1 w _).grown HG.out (by simp) (fun q hq => by cases hq; exact Nat.le_refl _)⟩

def isOwn1 (B : Nat) (e : TypeId) (n : Nat) (us : List Value) : Value → World → Prop := fun v W => W.ownsRow B e 1 v n us
theorem isOwn1_stays (B : Nat) (e : TypeId) (n : Nat) (us : List Value) : Stays (isOwn1 B e n us) := fun _ _ _ hb h => ownsRow_keep h (Keeps.of_below (P := fun _ => True) hb) fun _ _ => trivial
def isNum (n : Bool) (B N : Nat) (us : List Value) : Value → World → Prop := fun v W => ∃ o c, v = .agg #[.bool n, .slice o N c] ∧ W.ownsRow B 55 1 (.slice o N c) N us
theorem isNum_stays (n : Bool) (B N : Nat) (us : List Value) : Stays (isNum n B N us) := fun _ _ _ hb ⟨o, c, h1, h2⟩ => ⟨o, c, h1, isOwn1_stays _ _ _ _ _ _ _ hb h2⟩
theorem rowp2d {W : World} {g : Nat} {a0 a1 : Value} {e : TypeId} (h : W.heap[g]? = some (.cells #[a0, a1] e (0, 0))) : W.cell? ⟨g, 0, none⟩ = some a0 ∧ W.cell? ⟨g, 1, none⟩ = some a1 ∧ W.frozen? ⟨g, 0, none⟩ = false ∧ W.frozen? ⟨g, 1, none⟩ = false :=
  ⟨cell_heap h 0, cell_heap h 1, frozen_heap h 0, frozen_heap h 1⟩
theorem putp2d {W : World} {g : Nat} {a0 a1 : Value} {e : TypeId} (h : W.heap[g]? = some (.cells #[a0, a1] e (0, 0))) (b0 b1 : Value) : ((W.setCell ⟨g, 0, none⟩ b0).setCell ⟨g, 1, none⟩ b1).heap[g]? = some (.cells #[b0, b1] e (0, 0)) := (rowSet (rowSet h 0 b0) 1 b1).trans (by simp)
theorem ownsRow_base {w : World} {B B' : Nat} {e : TypeId} {size n : Nat} {v : Value} {xs : List Value} (h : w.ownsRow B e size v n xs) (hle : B' ≤ B) : w.ownsRow B' e size v n xs := by
  obtain ⟨h1, h2⟩ := h
  refine ⟨h1, ?_⟩
  rcases h2 with h2 | ⟨g, cap, cur, h3, h4, h5⟩
  · exact .inl h2
  · exact .inr ⟨g, cap, cur, h3, Nat.le_trans hle h4, h5⟩
theorem own_farT {w : World} {base n size : Nat} {e e2 : TypeId} {v : Value} {xs : List Value} (h : w.ownsRow base e size v n xs) {g : Nat} {cs : Array Value} (hg : w.heap[g]? = some (.cells cs e2 (0, 0))) (hne : e ≠ e2) : ∀ b, v.ownBlock = some b → b ≠ g := by
  intro b hb hbg
  subst hbg
  rcases h.2 with ⟨rfl, _⟩ | ⟨g', cap, cur, rfl, _, hh, _⟩
  · cases hb
  · injection hb with hb
    subst hb
    rw [hg] at hh
    injection hh with hh
    injection hh with _ h2 _
    exact hne h2.symm
theorem newsd2 {w : World} {a b : Obj} : ((w.alloc a).alloc b).heap[w.heap.size]? = some a ∧ ((w.alloc a).alloc b).heap[w.heap.size + 1]? = some b := by
  refine ⟨?_, ?_⟩
  · rw [Below.heap_alloc _ _ _ (by simp)]; exact heap_alloc_new w _
  · have := heap_alloc_new (w.alloc a) b
    simpa using this

set_option maxRecDepth 100000 in
set_option maxHeartbeats 4000000 in
theorem number_any (n : Bool) (lv : Value) (r : List Nat) (w : World) (hr : RowV w lv r.length 1 (ucs r)) (hl : r.length ≤ 2000000) :
    Calls Tryd.prog 41 #[.agg #[.bool n, lv]] w fun e w' => ∃ o c, e = .returned (.agg #[.bool n, .slice o r.length c]) ∧ w'.ownsRow w.heap.size 55 1 (.slice o r.length c) r.length (ucs r) ∧ Below w.heap.size w w' := by
  obtain ⟨lo, lc, rfl⟩ : ∃ o c, lv = .slice o r.length c := by obtain ⟨_, _, o, c, h, _⟩ := hr; exact ⟨o, c, h⟩
  have HR := Lib.hid hr
  have HLN := Lib.hid hl
  clear hr hl
  generalize r.length = N at *
  have hb1 := below2 w (.cells #[.bool n, .slice lo N lc] 24) (.cells #[.bool false, .slice none 0 0] 24)
  have hn1 := @newsd2 w (.cells #[.bool n, .slice lo N lc] 24) (.cells #[.bool false, .slice none 0 0] 24)
  go_enter Tryd.func41, Tryd.ntmps41
  go_upto_region 1 with fail
  generalize (w.alloc (.cells #[.bool n, .slice lo N lc] 24)).alloc (.cells #[.bool false, .slice none 0 0] 24) = W1 at *
  have HB1 := Lib.hid hb1
  have HX := Lib.hid hn1.1
  have HZ := Lib.hid hn1.2
  have HLT := Lib.hid (And.intro (Array.getElem?_eq_some_iff.1 hn1.1).1 (Array.getElem?_eq_some_iff.1 hn1.2).1)
  clear hb1 hn1
  refine wp_region_late 6 5 5 8 8 (psi [isV (.pointer (some ⟨w.heap.size, 0, none⟩)), isV (.bool n), isV (.pointer (some ⟨w.heap.size, 1, none⟩)), isV (.slice lo N lc), isOwn1 w.heap.size 55 N (ucs r), isNum n w.heap.size N (ucs r), nothing]) (fun W => Below W1.heap.size W1 W) (fun _ v W0 W' => ∃ a b, v = .agg #[a, b] ∧ W' = (W0.setCell ⟨w.heap.size + 1, 0, none⟩ a).setCell ⟨w.heap.size + 1, 1, none⟩ b) (by kernel_rfl) (Below.refl _ _).drew (psi_mono ?_) (by kernel_rfl) (by kernel_rfl) (by kernel_rfl) ?_ ?_
  · intro pq hp
    simp only [List.mem_cons, List.not_mem_nil, or_false] at hp
    (repeat' rcases hp with rfl | hp) <;> first | exact isV_stays _ | exact nothing_stays | (subst hp; first | exact isV_stays _ | exact nothing_stays) | exact isNum_stays _ _ _ _ | exact isOwn1_stays _ _ _ _ | (subst hp; exact isNum_stays _ _ _ _) | (subst hp; exact isOwn1_stays _ _ _ _)
  · refine AllOps.cons ?_ ?_
    · refine OpL.early (by kernel_rfl) (by kernel_rfl) fun ab W hC hB hdep => ?_
      refine .inl ⟨rfl, ?_⟩
      have b0 : ab.tmps.getD 1 undef = .pointer (some ⟨w.heap.size, 0, none⟩) := hB.off 1 (by kernel_rfl)
      clear hB hdep
      refine goes_value (v := .pointer (some ⟨w.heap.size, 0, none⟩)) ?_ hC rfl
      simp only [execOp, Act.eval, b0]
      go_simp
    refine AllOps.cons ?_ ?_
    · refine OpL.early (by kernel_rfl) (by kernel_rfl) fun ab W hC hB hdep => ?_
      refine .inl ⟨rfl, ?_⟩
      obtain ⟨x0, (q0 : (isV (.pointer (some ⟨w.heap.size, 0, none⟩))) x0 W), e0⟩ := hdep 0 3 (by kernel_rfl)
      obtain rfl : x0 = .pointer (some ⟨w.heap.size, 0, none⟩) := q0
      obtain ⟨c0, c1, z0, z1⟩ := rowp2d ((hC.block _ HLT.out.1).trans HX.out)
      clear hB hdep
      refine goes_value (v := .bool n) ?_ hC rfl
      simp only [execOp, Act.eval, e0]
      go_simp
    refine AllOps.cons ?_ ?_
    · refine OpL.early (by kernel_rfl) (by kernel_rfl) fun ab W hC hB hdep => ?_
      refine .inl ⟨rfl, ?_⟩
      have b0 : ab.tmps.getD 1 undef = .pointer (some ⟨w.heap.size, 0, none⟩) := hB.off 1 (by kernel_rfl)
      clear hB hdep
      refine goes_value (v := .pointer (some ⟨w.heap.size, 1, none⟩)) ?_ hC rfl
      simp only [execOp, Act.eval, b0]
      go_simp
    refine AllOps.cons ?_ ?_
    · refine OpL.early (by kernel_rfl) (by kernel_rfl) fun ab W hC hB hdep => ?_
      refine .inl ⟨rfl, ?_⟩
      obtain ⟨x0, (q0 : (isV (.pointer (some ⟨w.heap.size, 1, none⟩))) x0 W), e0⟩ := hdep 2 5 (by kernel_rfl)
      obtain rfl : x0 = .pointer (some ⟨w.heap.size, 1, none⟩) := q0
      obtain ⟨c0, c1, z0, z1⟩ := rowp2d ((hC.block _ HLT.out.1).trans HX.out)
      clear hB hdep
      refine goes_value (v := .slice lo N lc) ?_ hC rfl
      simp only [execOp, Act.eval, e0]
      go_simp
    refine AllOps.cons ?_ ?_
    · refine OpL.early (by kernel_rfl) (by kernel_rfl) fun ab W hC hB hdep => ?_
      refine .inl ⟨rfl, ?_⟩
      obtain ⟨x0, (q0 : (isV (.slice lo N lc)) x0 W), e0⟩ := hdep 3 6 (by kernel_rfl)
      obtain rfl : x0 = .slice lo N lc := q0
      clear hB hdep
      refine goes_call (f := 53) (args := #[.slice lo N lc]) ?_ ?_
      · simp only [execOp]
        go_simp
      · exact (sclu_any _ N (ucs r) W (HR.out.below (HB1.out.trans (hC.mono HB1.out.size))) (ucs_one _) HLN.out).mono fun e w7 ⟨v7, he, ho, hb⟩ => ⟨v7, he, hC.trans (hb.mono hC.size), hb, ownsRow_base ho (Nat.le_trans HB1.out.size hC.size)⟩
    refine AllOps.cons ?_ ?_
    · refine OpL.early (by kernel_rfl) (by kernel_rfl) fun ab W hC hB hdep => ?_
      refine .inl ⟨rfl, ?_⟩
      obtain ⟨x0, (q0 : (isV (.bool n)) x0 W), e0⟩ := hdep 1 4 (by kernel_rfl)
      obtain rfl : x0 = .bool n := q0
      obtain ⟨x1, (q1 : (isOwn1 w.heap.size 55 N (ucs r)) x1 W), e1⟩ := hdep 4 7 (by kernel_rfl)
      obtain ⟨uo1, uc1, rfl⟩ := own_dslice q1
      clear hB hdep
      refine goes_value (v := .agg #[.bool n, .slice uo1 N uc1]) ?_ hC ⟨_, _, rfl, q1⟩
      simp only [Array.getD_eq_getD_getElem?] at e0 e1
      simp only [execOp]
      go_simp
    refine AllOps.cons ?_ ?_
    · refine OpL.write (by kernel_rfl) fun vals ab W hC hB hdep => ⟨rfl, ?_⟩
      obtain ⟨(q0 : (isNum n w.heap.size N (ucs r)) (vals 5) W), e0⟩ := hdep 5 8 (by kernel_rfl)
      generalize vals 5 = x0 at *
      obtain ⟨uo0, uc0, rfl, hu0⟩ := q0
      have b0 : ab.tmps.getD 2 undef = .pointer (some ⟨w.heap.size + 1, 0, none⟩) := hB.off 2 (by kernel_rfl)
      clear hB hdep
      obtain ⟨c0, c1, z0, z1⟩ := rowp2d ((hC.block _ HLT.out.2).trans HZ.out)
      refine writes_skip (w1 := (W.setCell ⟨w.heap.size + 1, 0, none⟩ (.bool n)).setCell ⟨w.heap.size + 1, 1, none⟩ (.slice uo0 N uc0)) ?_ ⟨_, _, rfl, rfl⟩
      simp only [execOp, Act.eval, e0, b0]
      go_simp
    exact trivial
  · intro vals aa W0 w8 hC hFin hB hall
    obtain ⟨(k0 : (isV (.pointer (some ⟨w.heap.size, 0, none⟩))) (vals 0) W0), e0⟩ := hall 0 _ rfl (by decide)
    obtain ⟨(k1 : (isV (.bool n)) (vals 1) W0), e1⟩ := hall 1 _ rfl (by decide)
    obtain ⟨(k2 : (isV (.pointer (some ⟨w.heap.size, 1, none⟩))) (vals 2) W0), e2⟩ := hall 2 _ rfl (by decide)
    obtain ⟨(k3 : (isV (.slice lo N lc)) (vals 3) W0), e3⟩ := hall 3 _ rfl (by decide)
    obtain ⟨(k4 : (isOwn1 w.heap.size 55 N (ucs r)) (vals 4) W0), e4⟩ := hall 4 _ rfl (by decide)
    obtain ⟨(k5 : (isNum n w.heap.size N (ucs r)) (vals 5) W0), e5⟩ := hall 5 _ rfl (by decide)
    have hv : ∀ pq ∈ [((3 : Nat), (.pointer (some ⟨w.heap.size, 0, none⟩) : Value)), ((4 : Nat), (.bool n : Value)), ((5 : Nat), (.pointer (some ⟨w.heap.size, 1, none⟩) : Value)), ((6 : Nat), (.slice lo N lc : Value)), ((7 : Nat), (vals 4 : Value)), ((8 : Nat), (vals 5 : Value))], aa.tmps.getD pq.1 undef = pq.2 := by
      intro pq hp
      simp only [List.mem_cons, List.not_mem_nil, or_false] at hp
      rcases hp with rfl | rfl | rfl | rfl | rfl | rfl
      · exact (e0 _ rfl).trans k0
      · exact (e1 _ rfl).trans k1
      · exact (e2 _ rfl).trans k2
      · exact (e3 _ rfl).trans k3
      · exact e4 _ rfl
      · exact e5 _ rfl
    have hact := act_fold _ hB hv (by kernel_rfl)
    subst hact
    clear hv hall hB e0 e1 e2 e3 e4 e5
    refine (‹∀ (a : Act) (w : World), Code.wp Tryd.prog _ _ a w → _›) _ _ ?_
    simp only [List.foldl, List.setIfInBounds_toArray, List.set_cons_succ, List.set_cons_zero]
    obtain ⟨a, b, hab, rfl⟩ := hFin
    obtain ⟨o, c, hoc, how⟩ := k5
    rw [hab] at hoc
    simp only [Value.agg.injEq, Array.mk.injEq, List.cons.injEq, and_true] at hoc
    obtain ⟨rfl, rfl⟩ := hoc
    have hz8 := (hC.block _ HLT.out.2).trans HZ.out
    have hp := putp2d hz8 (.bool n) (.slice o N c)
    have hbel : Below w.heap.size w ((W0.setCell ⟨w.heap.size + 1, 0, none⟩ (.bool n)).setCell ⟨w.heap.size + 1, 1, none⟩ (.slice o N c)) := ((HB1.out.trans (hC.mono HB1.out.size)).setCell (by simp) _).setCell (by simp) _
    have how2 : ((W0.setCell ⟨w.heap.size + 1, 0, none⟩ (.bool n)).setCell ⟨w.heap.size + 1, 1, none⟩ (.slice o N c)).ownsRow w.heap.size 55 1 (.slice o N c) N (ucs r) :=
      ownsRow_keep how (((Keeps.refl (fun b => b ≠ w.heap.size + 1) W0).set (p := ⟨w.heap.size + 1, 0, none⟩) (fun h => h rfl) _).set (p := ⟨w.heap.size + 1, 1, none⟩) (fun h => h rfl) _) fun b hb => own_farT how hz8 (by decide) b hb
    obtain ⟨p0, p1, _, _⟩ := rowp2d hp
    have HP := Lib.hid (And.intro hbel how2)
    clear hz8 hp hbel how2 hC how
    go_wp2_with fail
    refine bodyPost_ret (v := .agg #[.bool n, .slice o N c]) (by simp [results, Tryd.results41, go_sem, p0, p1]) rfl ?_
    exact ⟨_, _, rfl, HP.out.2, HP.out.1⟩
end Go.Proofs.YtbfcbicbeagjkaaDoor
namespace Go.Proofs.YtbfcbicbeagjkaaDoor
open Go.RowKit

end Go.Proofs.YtbfcbicbeagjkaaDoor
namespace Go.Proofs.YtbfcbicbeagjkaaDoor
open Go.RowKit

/-- A datum without where it stands. -/
def Dm.strip : Dm → Dm
  | .mk k t n r l _ => .mk k t n r (l.attach.map fun ⟨d, _⟩ => Dm.strip d) 0
open Classical in
/-- The same, wherever they stand? -/
noncomputable def sameA (a b : Dm) : Bool := decide (a.strip = b.strip)
end Go.Proofs.YtbfcbicbeagjkaaDoor
namespace Go.Proofs.YtbfcbicbeagjkaaDoor
open Go.RowKit

end Go.Proofs.YtbfcbicbeagjkaaDoor
namespace Go.Proofs.YtbfcbicbeagjkaaDoor
open Go.RowKit

/-- With another wrap. -/
def reS (m s : List Int) : Sx → Sx
  | .mk k t n r l a _ _ => .mk k t n r l a m s
/-- The piece with a wrap around. -/
def pshS (m s : List Int) (D : Sx) : Sx := reS (wjA m s D.m D.s).1 (wjA m s D.m D.s).2.1 D
/-- Opened. -/
def opnS (D : Sx) : Sx := if 1 ≤ D.k ∧ D.k ≤ 3 then .mk D.k D.t D.n D.r (D.l.map (pshS D.m D.s)) D.a [] [] else D
theorem opnS_yes {k : Int} {t : ByteArray} {n : Bool} {r : List Nat} {l : List Sx} {a : Int} {dm ds : List Int} (hk : 1 ≤ k ∧ k ≤ 3) : opnS (.mk k t n r l a dm ds) = .mk k t n r (l.map (pshS dm ds)) a [] [] := if_pos hk
theorem opnS_no {D : Sx} (hk : ¬ (1 ≤ D.k ∧ D.k ≤ 3)) : opnS D = D := if_neg hk
theorem sameS_refl : ∀ {f : Nat} {D : Sx}, dpB f D = true → sameS f D D = true := by
  intro f
  induction f with
  | zero => intro D h; cases h
  | succ f ih =>
    intro D h
    obtain ⟨k, t, n, r, l, a, m, s⟩ := D
    unfold dpB at h
    exact sameS_iff.2 ⟨rfl, rfl, ⟨rfl, rfl⟩, rfl, rfl, rfl, fun j hj _ => ih (List.all_eq_true.1 h _ (List.getElem_mem hj))⟩
theorem light_dp : ∀ {f : Nat} {D : Sx}, lightS f D = true → dpB f D = true := by
  intro f
  induction f with
  | zero => intro D h; cases h
  | succ f ih =>
    intro D h
    obtain ⟨_, _, _, hl⟩ := lightS_mem h
    exact dpB_yes fun j hj => ih (hl j hj)
end Go.Proofs.YtbfcbicbeagjkaaDoor
