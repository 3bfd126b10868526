/- SameRound -/
import Derived.Test.YtimnhbndokfgnaaSmLaw
namespace Go.Proofs.Ytimnhbndokfgnaa
open Go.RowKit

/-- k boxes behind B others: the first holds z, each other one the one ahead of it. -/
def bxO (B : Nat) (z : Int × Int) (i : Nat) : Ob := ⟨3, 2, [if i = 0 then z else (7, ((B + i - 1 : Nat) : Int))], none⟩
def cbx (B : Nat) (z : Int × Int) (k : Nat) : List Ob := (List.range k).map (bxO B z)
def sB (os : List Ob) : St := ⟨4000, 2 * os.length, os, []⟩
theorem cbx_len (B : Nat) (z : Int × Int) (k : Nat) : (cbx B z k).length = k := by simp [cbx]
theorem cbx_succ (B : Nat) (z : Int × Int) (k : Nat) : cbx B z (k + 1) = cbx B z k ++ [bxO B z k] := by simp [cbx, List.range_succ]
theorem sB_make {os : List Ob} {v : Int × Int} (hl : os.length + 1 ≤ 2000) (hv : sdV os.length 0 v = true) : (sB os).make 3 [v] = (((7, (os.length : Int)), 0), sB (os ++ [⟨3, 2, [v], none⟩])) := by
  unfold St.make
  rw [if_neg (by simp [mayA]), if_neg (by simp [sB, hv]), if_neg (by simp [sB]; omega)]
  simp only [sB, St.add, List.length_append, List.length_cons, List.length_nil]
  rfl
theorem sB_obj {os : List Ob} {i : Nat} {o : Ob} (h : os[i]? = some o) : (sB os).obj (7, (i : Int)) = some o := by
  unfold St.obj
  rw [if_pos ⟨rfl, by simp⟩]
  simpa [sB] using h
theorem cbx_at {os : List Ob} {B k i : Nat} {z : Int × Int} {tl : List Ob} (hB : os.length = B) (hi : i < k) : (os ++ cbx B z k ++ tl)[B + i]? = some (bxO B z i) := by
  rw [List.append_assoc, List.getElem?_append_right (by omega), show B + i - os.length = i by omega, List.getElem?_append_left (by rw [cbx_len]; exact hi)]
  simp [cbx, hi]
theorem sB_set {os : List Ob} {B k : Nat} {x : Int × Int} (hB : os.length = B) (hk : 0 < k) (hx : sdV (B + k) 0 x = true) : (sB (os ++ cbx B (0, 0) k)).setA (7, (B : Int)) 0 x = (0, sB (os ++ cbx B x k)) := by
  have ho := sB_obj (cbx_at (z := (0, 0)) (tl := []) hB hk)
  rw [List.append_nil, Nat.add_zero] at ho
  have hg : (sB (os ++ cbx B (0, 0) k)).get (7, (B : Int)) 0 = ((0, 0), 0) := get_at ho (j := 0) (by simp [bxO])
  have hl : (sB (os ++ cbx B (0, 0) k)).os.length = B + k := by simp [sB, cbx_len, hB]
  unfold St.setA
  rw [hg, if_neg (by simp), hl, if_neg (by simp [sB, hx])]
  simp only [Prod.mk.injEq, true_and]
  unfold St.put sB
  simp only [St.mk.injEq, true_and, and_true, Int.toNat_natCast, List.length_append, cbx_len]
  apply List.ext_getElem?
  intro m
  rw [List.getElem?_modify]
  rcases Nat.lt_or_ge m os.length with hm | hm
  · rw [List.getElem?_append_left hm, List.getElem?_append_left hm]
    simp [show B ≠ m by omega]
  · rw [List.getElem?_append_right hm, List.getElem?_append_right hm]
    obtain ⟨j, rfl⟩ : ∃ j, m = B + j := ⟨m - B, by omega⟩
    rw [show B + j - os.length = j by omega]
    unfold cbx
    simp only [List.getElem?_map]
    rcases Nat.lt_or_ge j k with hj | hj
    · rw [List.getElem?_range hj]
      cases j with
      | zero => simp [bxO, Ob.put]
      | succ j => simp [bxO]
    · rw [List.getElem?_eq_none (by simpa using hj)]
      simp
theorem sd_obj {n i : Nat} (h : i < n) : sdV n 0 (7, (i : Int)) = true := by
  rw [sdV_obj rfl]; simp; exact h

theorem sB_mk2 {os : List Ob} {i : Nat} {z : Int × Int} (hi : 1 ≤ i) (hl : os.length + i ≤ 1900) : (sB (os ++ cbx os.length z i)).make 3 [(7, ((os.length + i - 1 : Nat) : Int))] = (((7, ((os.length + i : Nat) : Int)), 0), sB (os ++ cbx os.length z (i + 1))) := by
  have hlen : (os ++ cbx os.length z i).length = os.length + i := by rw [List.length_append, cbx_len]
  rw [sB_make (by omega) (sd_obj (by omega)), hlen, cbx_succ, ← List.append_assoc]
  unfold bxO
  rw [if_neg (by omega)]
set_option maxRecDepth 100000 in
set_option maxHeartbeats 4000000 in
theorem ring_any (w0 w : World) (g : Nat) (R : Nat → Nat) (os : List Ob) (n : Nat) (h : StQ w0 w g R (sB os)) (hn : 1 ≤ n) (h9 : n ≤ 9) (hl : os.length ≤ 1000) :
    Calls Try.prog 34 #[.pointer (some ⟨g, 0, none⟩), .int .i64 ((n : Nat) : Int)] w fun e w' => e = .returned (.agg #[.int .i64 7, .int .i64 ((os.length + n - 1 : Nat) : Int)]) ∧ ∃ R', StQ w0 w' g R' (sB (os ++ cbx os.length (7, ((os.length + n - 1 : Nat) : Int)) n)) := by
  have HV1 := Lib.hid vrow1
  have HRB := Lib.hid (Bx.new h (0, 0))
  have HQ0 := Lib.hid (h.alloc (.cells #[.int .i64 0, .int .i64 0] 35))
  have HW0 := Lib.hid h.bel.size
  clear h
  go_enter Try.func34, Try.ntmps34
  go_upto_region 1 with fail
  generalize w.alloc (.cells #[.int .i64 0, .int .i64 0] 35) = w1 at *
  generalize w.heap.size = rb at *
  go_wp2_with fail
  refine (qmake (HQ0.out.alloc _) (HV1.out _ (0, 0)) (by simp) (sB_make (v := (0, 0)) (by omega) rfl)).mono ?_
  rintro e w2 ⟨rfl, R2, hq2, hf2, hr2⟩
  have hrb2 := (HRB.out.below (below1 w1 _)).keep hf2 hr2
  have hw1 : rb < w1.heap.size := HRB.out.lt
  have HQ2 := Lib.hid (hq2.alloc (.cells #[.int .i64 7, .int .i64 (os.length : Int)] 35))
  have HRB2 := Lib.hid (hrb2.below (below1 w2 (.cells #[.int .i64 7, .int .i64 (os.length : Int)] 35)))
  have HFB2 := Lib.hid (Bx.new hq2 (7, (os.length : Int)))
  have HNE1 : Hid (rb < w2.heap.size) := Lib.hid hrb2.lt
  have HW1 : Hid (w0.heap.size ≤ w2.heap.size) := Lib.hid hq2.bel.size
  clear hq2 hf2 hr2 hrb2 hw1
  go_upto_region 2 with fail
  generalize w2.alloc (.cells #[.int .i64 7, .int .i64 (os.length : Int)] 35) = w3 at *
  generalize w2.heap.size = fb at *
  obtain ⟨f0, f1, _⟩ := HFB2.out.facts
  have HQ3 := Lib.hid (HQ2.out.alloc (.cells #[.int .i64 7, .int .i64 (os.length : Int)] 35))
  have HRB3 := Lib.hid (HRB2.out.below (below1 w3 (.cells #[.int .i64 7, .int .i64 (os.length : Int)] 35)))
  have HFB3 := Lib.hid (HFB2.out.below (below1 w3 (.cells #[.int .i64 7, .int .i64 (os.length : Int)] 35)))
  have HLB3 := Lib.hid (Bx.new HQ2.out (7, (os.length : Int)))
  have HNE2 : Hid (fb < w3.heap.size) := Lib.hid HFB2.out.lt
  have HW2 : Hid (w0.heap.size ≤ w3.heap.size) := Lib.hid HQ2.out.bel.size
  go_upto_region 3 with fail
  clear f0 f1
  generalize w3.alloc (.cells #[.int .i64 7, .int .i64 (os.length : Int)] 35) = w4 at *
  generalize w3.heap.size = lb at *
  have hob : (os ++ [⟨3, 2, [(0, 0)], none⟩] : List Ob) = os ++ cbx os.length (0, 0) 1 := by simp [cbx, bxO]
  rw [hob] at HQ3
  clear hob
  go_wp2_with fail
  go_loopw [8] (fun v wr => ∃ (i : Nat) (R' : Nat → Nat), 1 ≤ i ∧ i ≤ n ∧ v = .int .i64 (i : Nat) ∧ StQ w0 wr g R' (sB (os ++ cbx os.length (0, 0) i)) ∧ Bx wr R' rb (0, 0) ∧ Bx wr R' fb (7, (os.length : Int)) ∧ Bx wr R' lb (7, ((os.length + i - 1 : Nat) : Int))) (fun v _ => n - (intOf v).toNat)
  case atStart => exact ⟨1, R2, Nat.le_refl _, hn, rfl, HQ3.out, HRB3.out, HFB3.out, by rw [show os.length + 1 - 1 = os.length by omega]; exact HLB3.out⟩
  case round =>
    obtain ⟨i, R', hi1, hin, rfl, hq, hrb, hfb, hlb⟩ := hrel
    have HQ := Lib.hid hq
    have HRB := Lib.hid hrb
    have HFB := Lib.hid hfb
    have HLB := Lib.hid hlb
    obtain ⟨l0, l1, lz0, lz1⟩ := hlb.facts
    clear hq hrb hfb hlb
    simp only at l0 l1
    by_cases hlt : i < n
    · have hii : ((i : Nat) : Int) < ((n : Nat) : Int) := by omega
      have HMK := Lib.hid (sB_mk2 (os := os) (z := (0, 0)) hi1 (by omega))
      generalize os.length + i - 1 = lv at *
      obtain ⟨nv, hnv⟩ : ∃ nv, nv = os.length + i := ⟨_, rfl⟩
      rw [← hnv] at HMK
      have HNV := Lib.hid hnv
      clear hnv
      go_wp2_with fail
      refine (qmake (HQ.out.alloc _) (HV1.out _ (7, (lv : Int))) (by simp) HMK.out).mono ?_
      rintro e w5 ⟨rfl, R5, hq5, hf5, hr5⟩
      have hrb5 := (HRB.out.below (below1 wr _)).keep hf5 hr5
      have hfb5 := (HFB.out.below (below1 wr _)).keep hf5 hr5
      have hlb5 := (HLB.out.below (below1 wr _)).keep hf5 hr5
      have HQ6 := Lib.hid (hq5.alloc (.cells #[.int .i64 7, .int .i64 ((nv : Nat) : Int)] 35))
      have HRB6 := Lib.hid (hrb5.below (below1 w5 (.cells #[.int .i64 7, .int .i64 ((nv : Nat) : Int)] 35)))
      have HFB6 := Lib.hid (hfb5.below (below1 w5 (.cells #[.int .i64 7, .int .i64 ((nv : Nat) : Int)] 35)))
      have HLB6 := Lib.hid (hlb5.below (below1 w5 (.cells #[.int .i64 7, .int .i64 ((nv : Nat) : Int)] 35)))
      have HVB6 := Lib.hid (Bx.new hq5 (7, ((nv : Nat) : Int)))
      clear hq5 hf5 hr5 hrb5 hfb5 hlb5 l0 l1 lz0 lz1
      go_upto_region 7 with fail
      generalize w5.alloc (.cells #[.int .i64 7, .int .i64 ((nv : Nat) : Int)] 35) = w6 at *
      generalize w5.heap.size = vb at *
      obtain ⟨v0, v1, _⟩ := HVB6.out.facts
      obtain ⟨l0, l1, lz0, lz1⟩ := HLB6.out.facts
      simp only at v0 v1
      go_wp2_with fail
      go_roundw
      case measure => simp only [intOf]; omega
      case rel =>
        have h1 : w0.heap.size ≤ lb := HW2.out
        have hne1 : rb ≠ lb := by have := HNE1.out; have := HNE2.out; omega
        have hne2 : fb ≠ lb := by have := HNE2.out; omega
        refine ⟨i + 1, R5, by omega, by omega, by go_num, (HQ6.out.set (p := ⟨lb, 0, none⟩) h1 HLB6.out.free _).set (p := ⟨lb, 1, none⟩) h1 HLB6.out.free _, (HRB6.out.other (p := ⟨lb, 0, none⟩) hne1 _).other (p := ⟨lb, 1, none⟩) hne1 _, (HFB6.out.other (p := ⟨lb, 0, none⟩) hne2 _).other (p := ⟨lb, 1, none⟩) hne2 _, ?_⟩
        rw [show os.length + (i + 1) - 1 = nv by have := HNV.out; omega]
        exact HLB6.out.put (7, ((nv : Nat) : Int))
    · obtain rfl : i = n := by omega
      have hii : ¬ ((i : Nat) : Int) < ((i : Nat) : Int) := by omega
      obtain ⟨f0, f1, _⟩ := HFB.out.facts
      obtain ⟨r0, r1, rz0, rz1⟩ := HRB.out.facts
      have HST := Lib.hid (sB_set (os := os) (B := os.length) (k := i) rfl (by omega) (sd_obj (show os.length + i - 1 < os.length + i by omega)))
      obtain ⟨lv, hlv⟩ : ∃ lv, lv = os.length + i - 1 := ⟨_, rfl⟩
      rw [← hlv] at HST l1
      have HLV := Lib.hid hlv
      have hlb' := HLB.out
      rw [← hlv] at hlb'
      have HLB := Lib.hid hlb'
      clear hlv hlb'
      simp only at f0 f1
      go_wp2_with fail
      refine (qset (v := (7, (os.length : Int))) (x := (7, (lv : Int))) HQ.out HST.out).mono ?_
      rintro e w5 ⟨rfl, R5, hq5, hf5, hr5⟩
      have HQ5 := Lib.hid hq5
      have hrb5 := HRB.out.keep hf5 hr5
      have hlb5 := HLB.out.keep hf5 hr5
      have HRB5 := Lib.hid hrb5
      clear l0 l1 lz0 lz1 f0 f1 r0 r1 rz0 rz1 hq5 hf5 hr5
      obtain ⟨l0, l1, lz0, lz1⟩ := hlb5.facts
      obtain ⟨r0, r1, rz0, rz1⟩ := hrb5.facts
      clear hrb5 hlb5
      simp only at l0 l1
      go_wp2_with fail
      have hput := HRB5.out.put (7, (lv : Int))
      obtain ⟨r0, r1, _⟩ := hput.facts
      refine bodyPost_ret (v := .agg #[.int .i64 7, .int .i64 (lv : Int)]) (by simp [results, Try.results34, go_sem, r0, r1]) rfl ⟨by rw [HLV.out], R5, ?_⟩
      rw [← HLV.out]
      exact (HQ5.out.set (p := ⟨rb, 0, none⟩) HW0.out HRB5.out.free _).set (p := ⟨rb, 1, none⟩) HW0.out HRB5.out.free _

/-- A value whose object is a box with x. -/
def BoxAt (s : St) (v x : Int × Int) : Prop := s.obj v = some ⟨3, 2, [x], none⟩
theorem BoxAt.kind {s : St} {v x : Int × Int} (h : BoxAt s v x) : s.kind v = 3 := by unfold St.kind; rw [show s.obj v = _ from h]
theorem BoxAt.len {s : St} {v x : Int × Int} (h : BoxAt s v x) : s.len v = 1 := by unfold St.len; rw [show s.obj v = _ from h]; rfl
theorem BoxAt.get {s : St} {v x : Int × Int} (h : BoxAt s v x) : (s.get v ((0 : Nat) : Int)).1 = x := by unfold St.get; rw [show s.obj v = _ from h]; rfl
theorem BoxAt.ne {s : St} {v u x : Int × Int} (h : BoxAt s v x) (hne : v ≠ u) : s.eqvA v u = false := eqvA_no1 hne (by rw [h.kind]; decide)
theorem BoxAt.step {s : St} {v u x y : Int × Int} (h : BoxAt s v x) (h2 : BoxAt s u y) (hne : v ≠ u) (f : Nat) (l : List Pr) : s.rEq (f + 1) ((v, u) :: l) = s.rEq f ((x, y) :: l) := by
  rw [rEq_in (p := (v, u)) (h.ne hne) (compA_yes (by rw [h.kind]; decide) (by rw [h.kind]; decide) (by rw [h.kind, h2.kind]) (by rw [h.len, h2.len]))]
  unfold St.kids
  rw [show s.len ((v, u) : Pr).1 = 1 from h.len]
  show s.rEq f ([s.kid (v, u) 0] ++ l) = _
  unfold St.kid
  rw [show (s.get ((v, u) : Pr).1 ((0 : Nat) : Int)).1 = x from h.get, show (s.get ((v, u) : Pr).2 ((0 : Nat) : Int)).1 = y from h2.get]
  rfl
theorem rings_none {s : St} {P Q : Int × Int → Prop} (hP : ∀ v, P v → ∃ x, P x ∧ BoxAt s v x) (hQ : ∀ v, Q v → ∃ x, Q x ∧ BoxAt s v x) (hne : ∀ v u, P v → Q u → v ≠ u) : ∀ (f : Nat) (v u : Int × Int) (l : List Pr), P v → Q u → s.rEq f ((v, u) :: l) = none
  | 0, _, _, _, _, _ => rfl
  | f + 1, v, u, l, hv, hu => by
    obtain ⟨x, hx, h1⟩ := hP v hv
    obtain ⟨y, hy, h2⟩ := hQ u hu
    rw [h1.step h2 (hne v u hv hu)]
    exact rings_none hP hQ hne f x y l hx hy
theorem chain_no {s : St} {P : Int × Int → Prop} {B : Nat} (hP : ∀ v, P v → ∃ x, P x ∧ BoxAt s v x) (hb : ∀ v, P v → v.1 = 7 ∧ v.2 < (B : Int)) (hk0 : s.kind (0, 0) = 0) : ∀ (k f : Nat) (v : Int × Int) (l : List Pr), P v → (∀ i, i ≤ k → BoxAt s (7, ((B + i : Nat) : Int)) (if i = 0 then (0, 0) else (7, ((B + i - 1 : Nat) : Int)))) → s.rEq (f + k + 2) ((v, (7, ((B + k : Nat) : Int))) :: l) = some (false, f)
  | 0, f, v, l, hv, hc => by
    obtain ⟨x, hx, h1⟩ := hP v hv
    obtain ⟨y, hy, h2⟩ := hP x hx
    have h3 := hc 0 (Nat.le_refl _)
    rw [if_pos rfl] at h3
    rw [show f + 0 + 2 = f + 1 + 1 by omega, h1.step h3 (fun e => by have := (hb v hv).2; rw [e] at this; simp only at this; omega)]
    have hne : x ≠ (0, 0) := fun e => by have := (hb x hx).1; rw [e] at this; simp at this
    exact rEq_no (h2.ne hne) (compA_kind (by show s.kind (0, 0) ≠ s.kind x; rw [hk0, h2.kind]; decide)) f l
  | k + 1, f, v, l, hv, hc => by
    obtain ⟨x, hx, h1⟩ := hP v hv
    have h3 := hc (k + 1) (Nat.le_refl _)
    rw [if_neg (by omega)] at h3
    rw [show f + (k + 1) + 2 = f + k + 2 + 1 by omega, h1.step h3 (fun e => by have := (hb v hv).2; rw [e] at this; simp only at this; omega), show B + (k + 1) - 1 = B + k by omega]
    exact chain_no hP hb hk0 k f x l hx fun i hi => hc i (by omega)
/-- One of n that lie from B on. -/
def InR (B n : Nat) (v : Int × Int) : Prop := ∃ i, i < n ∧ v = (7, ((B + i : Nat) : Int))
theorem ring_closed {os tl : List Ob} {B n : Nat} (hB : os.length = B) : ∀ v, InR B n v → ∃ x, InR B n x ∧ BoxAt (sB (os ++ cbx B (7, ((B + n - 1 : Nat) : Int)) n ++ tl)) v x := by
  rintro v ⟨i, hi, rfl⟩
  have ho := sB_obj (cbx_at (z := (7, ((B + n - 1 : Nat) : Int))) (tl := tl) hB hi)
  by_cases h0 : i = 0
  · subst h0
    exact ⟨(7, ((B + n - 1 : Nat) : Int)), ⟨n - 1, by omega, by rw [show B + n - 1 = B + (n - 1) by omega]⟩, by unfold BoxAt; rw [ho]; simp [bxO]⟩
  · exact ⟨(7, ((B + i - 1 : Nat) : Int)), ⟨i - 1, by omega, by rw [show B + i - 1 = B + (i - 1) by omega]⟩, by unfold BoxAt; rw [ho]; simp [bxO, h0]⟩
/-- What the third list's last one holds. -/
def zc (B i : Nat) : Int × Int := if i = 0 then (0, 0) else (7, ((B + i - 1 : Nat) : Int))
theorem sB_mk3 {os : List Ob} {i B : Nat} (hB : os.length = B) (hl : B + i ≤ 1900) : (sB (os ++ cbx B (0, 0) i)).make 3 [zc B i] = (((7, ((B + i : Nat) : Int)), 0), sB (os ++ cbx B (0, 0) (i + 1))) := by
  subst hB
  have hlen : (os ++ cbx os.length (0, 0) i).length = os.length + i := by rw [List.length_append, cbx_len]
  have hs : sdV (os ++ cbx os.length (0, 0) i).length 0 (zc os.length i) = true := by
    unfold zc
    by_cases h0 : i = 0
    · subst h0; rfl
    · rw [if_neg h0, hlen]; exact sd_obj (by omega)
  rw [sB_make (by omega) hs, hlen, cbx_succ, ← List.append_assoc]
  rfl
/-- The three. -/
def os2 (n m : Nat) : List Ob := [] ++ cbx 0 (7, ((0 + n - 1 : Nat) : Int)) n ++ cbx n (7, ((n + m - 1 : Nat) : Int)) m
theorem os2_len (n m : Nat) : (os2 n m).length = n + m := by simp [os2, cbx_len]
theorem round_none {n m : Nat} (hn : 0 < n) (hm : 0 < m) (f : Nat) : (sB (os2 n m)).rEq f [((7, ((n - 1 : Nat) : Int)), (7, ((n + m - 1 : Nat) : Int)))] = none := by
  have h1 : ∀ v, InR 0 n v → ∃ x, InR 0 n x ∧ BoxAt (sB (os2 n m)) v x := ring_closed (os := []) (tl := cbx n (7, ((n + m - 1 : Nat) : Int)) m) rfl
  have h2 : ∀ v, InR n m v → ∃ x, InR n m x ∧ BoxAt (sB (os2 n m)) v x := by
    have := ring_closed (os := [] ++ cbx 0 (7, ((0 + n - 1 : Nat) : Int)) n) (tl := []) (B := n) (n := m) (by simp [cbx_len])
    rw [List.append_nil] at this
    exact this
  refine rings_none h1 h2 ?_ f _ _ [] ⟨n - 1, by omega, by rw [Nat.zero_add]⟩ ⟨m - 1, by omega, by rw [show n + m - 1 = n + (m - 1) by omega]⟩
  rintro v u ⟨i, hi, rfl⟩ ⟨j, hj, rfl⟩ e
  have := (Prod.mk.inj e).2
  omega
theorem round_no {n m : Nat} (hn : 0 < n) : (sB (os2 n m ++ cbx (n + m) (0, 0) 30)).rEq 100 [((7, ((n - 1 : Nat) : Int)), (7, ((n + m + 29 : Nat) : Int)))] = some (false, 69) := by
  have h1 : ∀ v, InR 0 n v → ∃ x, InR 0 n x ∧ BoxAt (sB (os2 n m ++ cbx (n + m) (0, 0) 30)) v x := by
    have := ring_closed (os := []) (tl := cbx n (7, ((n + m - 1 : Nat) : Int)) m ++ cbx (n + m) (0, 0) 30) (B := 0) (n := n) rfl
    rw [← List.append_assoc] at this
    exact this
  refine chain_no (B := n + m) h1 ?_ ?_ 29 69 _ [] ⟨n - 1, by omega, by rw [Nat.zero_add]⟩ fun i hi => ?_
  · rintro v ⟨i, hi, rfl⟩
    exact ⟨rfl, by simp only; omega⟩
  · rfl
  · have ho := sB_obj (cbx_at (os := os2 n m) (B := n + m) (k := 30) (z := (0, 0)) (tl := []) (os2_len n m) (show i < 30 by omega))
    rw [List.append_nil] at ho
    unfold BoxAt
    rw [ho]
    rfl

set_option maxRecDepth 100000 in
set_option maxHeartbeats 8000000 in
theorem sameround_any (x y u : Int) (w : World) (hx0 : 0 ≤ x) (_hx1 : x ≤ 255) (hy0 : 0 ≤ y) (_hy1 : y ≤ 255) (hu0 : 0 ≤ u) (_hu1 : u ≤ 65535) :
    Calls Try.prog 9 #[.int .u8 x, .int .u8 y, .int .u16 u] w fun e w' => e = .returned (.bool true) ∧ Below w.heap.size w w' := by
  obtain ⟨n, hn⟩ : ∃ n : Nat, x.tmod 9 = ((n : Nat) : Int) := ⟨(x.tmod 9).toNat, by rw [Int.toNat_of_nonneg (Int.tmod_nonneg _ hx0)]⟩
  have hn2 : n < 9 := by have := Int.tmod_lt_of_pos x (show (0 : Int) < 9 by decide); omega
  obtain ⟨m, hm⟩ : ∃ m : Nat, y.tmod 9 = ((m : Nat) : Int) := ⟨(y.tmod 9).toNat, by rw [Int.toNat_of_nonneg (Int.tmod_nonneg _ hy0)]⟩
  have hm2 : m < 9 := by have := Int.tmod_lt_of_pos y (show (0 : Int) < 9 by decide); omega
  obtain ⟨f, hf⟩ : ∃ f : Nat, u.tmod 2000 = ((f : Nat) : Int) := ⟨(u.tmod 2000).toNat, by rw [Int.toNat_of_nonneg (Int.tmod_nonneg _ hu0)]⟩
  have hf2 : f < 2000 := by have := Int.tmod_lt_of_pos u (show (0 : Int) < 2000 by decide); omega
  have HV1 := Lib.hid vrow1
  have en : ((n + 1 : Nat) : Int) = (n : Int) + 1 := by omega
  have em : ((m + 1 : Nat) : Int) = (m : Int) + 1 := by omega
  have HEN := Lib.hid en
  have HEM := Lib.hid em
  clear en em
  go_enter Try.func9, Try.ntmps9
  go_wp2_with fail
  refine (qnew 4000 w _ (Below.refl _ _) (by omega)).mono ?_
  rintro e w1 ⟨g, hg, rfl, hq, hb⟩
  have HQ1 : Hid (StQ w w1 g (Rnew g) (sB [])) := Lib.hid hq
  clear hq hb hg
  go_wp2_with fail
  refine (answers7_any _).mono ?_
  rintro e w2 ⟨rfl, hb2⟩
  have HQ2 := Lib.hid (HQ1.out.below hb2)
  clear hb2
  have HR1 := ring_any w w2 g _ [] (n + 1) HQ2.out (by omega) (by omega) (by simp)
  rw [HEN.out] at HR1
  have HRA := Lib.hid HR1
  clear HR1
  go_wp2_with fail
  refine HRA.out.mono ?_
  rintro e w3 ⟨rfl, R3, hq3⟩
  have HQ3 := Lib.hid hq3
  clear hq3
  have HR2 := ring_any w w3 g _ _ (m + 1) HQ3.out (by omega) (by omega) (by simp [cbx_len]; omega)
  rw [HEM.out] at HR2
  have HRB := Lib.hid HR2
  clear HR2
  go_wp2_with fail
  refine HRB.out.mono ?_
  rintro e w4 ⟨rfl, R4, hq4⟩
  have hlen : ([] ++ cbx ([] : List Ob).length (7, ((([] : List Ob).length + (n + 1) - 1 : Nat) : Int)) (n + 1) : List Ob).length = n + 1 := by simp [cbx_len]
  rw [hlen] at hq4 ⊢
  have HQ4 : Hid (StQ w w4 g R4 (sB (os2 (n + 1) (m + 1)))) := Lib.hid hq4
  clear hq4 hlen
  obtain ⟨yv, hyv⟩ : ∃ yv : Nat, yv = n + 1 + (m + 1) - 1 := ⟨_, rfl⟩
  rw [← hyv]
  have hr1 := round_none (n := n + 1) (m := m + 1) (by omega) (by omega) ((f : Int)).toNat
  have hr2 := round_no (n := n + 1) (m := m + 1) (by omega)
  rw [← hyv] at hr1
  rw [show n + 1 - 1 = n by omega] at hr1 hr2
  have HQA := Lib.hid (HQ4.out.alloc (.cells #[.int .i64 7, .int .i64 (n : Int)] 35))
  have HXA := Lib.hid (Bx.new HQ4.out (7, (n : Int)))
  have HQB := Lib.hid (HQA.out.alloc (.cells #[.int .i64 7, .int .i64 (yv : Int)] 35))
  have HXB := Lib.hid (HXA.out.below (below1 _ (.cells #[.int .i64 7, .int .i64 (yv : Int)] 35)))
  have HYB := Lib.hid (Bx.new HQA.out (7, (yv : Int)))
  have HE1 := Lib.hid hr1
  have HE2 := Lib.hid hr2
  clear hr1 hr2 hyv HRA HRB HQ1 HQ2 HQ3
  have hsz : (w4.alloc (.cells #[.int .i64 7, .int .i64 (n : Int)] 35)).heap.size = w4.heap.size + 1 := by simp
  rw [hsz] at HYB
  clear hsz
  go_upto_region 5 with fail
  generalize (w4.alloc (.cells #[.int .i64 7, .int .i64 (n : Int)] 35)).alloc (.cells #[.int .i64 7, .int .i64 (yv : Int)] 35) = w5 at *
  generalize w4.heap.size + 1 = yb at *
  generalize w4.heap.size = xb at *
  obtain ⟨x0, x1, _⟩ := HXB.out.facts
  obtain ⟨y0, y1, _⟩ := HYB.out.facts
  simp only at x0 x1 y0 y1
  have hfz : ((f : Nat) : Int) ≤ 1000000 := by omega
  go_wp2_with fail
  refine (qequal (a := (7, (n : Int))) (b := (7, (yv : Int))) HQB.out hfz HE1.out).mono ?_
  rintro e w6 ⟨rfl, hb6⟩
  have HQ6 := Lib.hid (HQB.out.below hb6)
  have HX6 := Lib.hid (HXB.out.below hb6)
  clear hb6 x0 x1 y0 y1
  unfold eqR
  go_upto_region 7 with fail
  have HQ7 := Lib.hid (HQ6.out.alloc (.cells #[.int .i64 0, .int .i64 0] 35))
  have HX7 := Lib.hid (HX6.out.below (below1 w6 (.cells #[.int .i64 0, .int .i64 0] 35)))
  have HZ7 := Lib.hid (Bx.new HQ6.out (0, 0))
  have HZW : Hid (w.heap.size ≤ w6.heap.size) := Lib.hid HQ6.out.bel.size
  have HXZ : Hid (xb < w6.heap.size) := Lib.hid HX6.out.lt
  generalize w6.alloc (.cells #[.int .i64 0, .int .i64 0] 35) = w7 at *
  generalize w6.heap.size = zb at *
  go_wp2_with fail
  go_loopw [15] (fun v wr => ∃ (i : Nat) (R' : Nat → Nat), i ≤ 30 ∧ v = .int .i64 (i : Nat) ∧ StQ w wr g R' (sB (os2 (n + 1) (m + 1) ++ cbx (n + 1 + (m + 1)) (0, 0) i)) ∧ Bx wr R' xb (7, (n : Int)) ∧ Bx wr R' zb (zc (n + 1 + (m + 1)) i)) (fun v _ => 30 - (intOf v).toNat)
  case atStart => exact ⟨0, R4, Nat.zero_le _, rfl, by simpa [cbx] using HQ7.out, HX7.out, HZ7.out⟩
  case round =>
    obtain ⟨i, R', hi, rfl, hq, hx, hz⟩ := hrel
    have HQ := Lib.hid hq
    have HX := Lib.hid hx
    have HZ := Lib.hid hz
    clear hq hx hz
    by_cases hlt : i < 30
    · have hii : ((i : Nat) : Int) < 30 := by omega
      have HMK := Lib.hid (sB_mk3 (os := os2 (n + 1) (m + 1)) (i := i) (os2_len _ _) (by omega))
      obtain ⟨nv, hnv⟩ : ∃ nv, nv = n + 1 + (m + 1) + i := ⟨_, rfl⟩
      rw [← hnv] at HMK
      have HNV := Lib.hid hnv
      clear hnv
      obtain ⟨zz, hzz⟩ : ∃ zz, zz = zc (n + 1 + (m + 1)) i := ⟨_, rfl⟩
      rw [← hzz] at HMK HZ
      clear hzz
      obtain ⟨za, zd⟩ := zz
      obtain ⟨z0, z1, zf0, zf1⟩ := HZ.out.facts
      simp only at z0 z1
      go_wp2_with fail
      refine (qmake (HQ.out.alloc _) (HV1.out _ (za, zd)) (by simp) HMK.out).mono ?_
      rintro e w9 ⟨rfl, R9, hq9, hf9, hr9⟩
      have HQ9 := Lib.hid hq9
      have HX9 := Lib.hid ((HX.out.below (below1 wr _)).keep hf9 hr9)
      have HZ9 := Lib.hid ((HZ.out.below (below1 wr _)).keep hf9 hr9)
      clear hq9 hf9 hr9 z0 z1 zf0 zf1
      obtain ⟨z0, z1, zf0, zf1⟩ := HZ9.out.facts
      simp only at z0 z1
      go_wp2_with fail
      go_roundw
      case measure => simp only [intOf]; omega
      case rel =>
        have hne : xb ≠ zb := by have := HXZ.out; omega
        refine ⟨i + 1, R9, by omega, by go_num, (HQ9.out.set (p := ⟨zb, 0, none⟩) HZW.out HZ9.out.free _).set (p := ⟨zb, 1, none⟩) HZW.out HZ9.out.free _, (HX9.out.other (p := ⟨zb, 0, none⟩) hne _).other (p := ⟨zb, 1, none⟩) hne _, ?_⟩
        have hz : zc (n + 1 + (m + 1)) (i + 1) = (7, ((nv : Nat) : Int)) := by unfold zc; rw [if_neg (by omega), show n + 1 + (m + 1) + (i + 1) - 1 = nv by have := HNV.out; omega]
        rw [hz]
        exact HZ9.out.put (7, ((nv : Nat) : Int))
    · obtain rfl : i = 30 := by omega
      have hz : zc (n + 1 + (m + 1)) 30 = (7, ((n + 1 + (m + 1) + 29 : Nat) : Int)) := by unfold zc; rw [if_neg (by omega), show n + 1 + (m + 1) + 30 - 1 = n + 1 + (m + 1) + 29 by omega]
      rw [hz] at HZ
      obtain ⟨nv, hnv⟩ : ∃ nv, nv = n + 1 + (m + 1) + 29 := ⟨_, rfl⟩
      rw [← hnv] at HZ HE2
      clear hz hnv
      obtain ⟨x0, x1, _⟩ := HX.out.facts
      obtain ⟨z0, z1, _⟩ := HZ.out.facts
      simp only at x0 x1 z0 z1
      go_wp2_with fail
      refine (qequal (f := 100) (a := (7, (n : Int))) (b := (7, (nv : Int))) HQ.out (by omega) HE2.out).mono ?_
      rintro e w9 ⟨rfl, hb9⟩
      have HQ9 := Lib.hid (HQ.out.below hb9)
      clear hb9 x0 x1 z0 z1
      unfold eqR
      go_wp2_with fail
      go_ret
      exact ⟨rfl, HQ9.out.bel⟩
end Go.Proofs.Ytimnhbndokfgnaa
