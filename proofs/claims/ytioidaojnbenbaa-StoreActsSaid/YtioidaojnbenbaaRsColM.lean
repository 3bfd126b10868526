/- The document's answer's list, given up: marks, places, what is left. No walk here. | The document's answer's list: Collect. -/
import Derived.Test.YtioidaojnbenbaaRsCnt
import Derived.Test.YtioidaojnbenbaaStKept
import Derived.Test.YtioidaojnbenbaaRsEqv
import Derived.Test.YtioidaojnbenbaaStNums
import Derived.BigRegion
namespace Go.Proofs.Ytioidaojnbenbaa
open Go.RowKit

/-- A row of bools that may be written. -/
def BRow (w : World) (b : Nat) (l : List Bool) : Prop := w.heap[b]? = some (.cells (l.map Value.bool).toArray 4 (0, 0))
theorem BRow.lt {w : World} {b : Nat} {l : List Bool} (h : BRow w b l) : b < w.heap.size := (Array.getElem?_eq_some_iff.1 h).1
theorem BRow.cell {w : World} {b : Nat} {l : List Bool} (h : BRow w b l) {j : Nat} (hj : j < l.length) : w.cell? ⟨b, j, none⟩ = some (.bool (l[j]'hj)) := by
  rw [cell_heap h j]
  simp [hj]
theorem BRow.frozen {w : World} {b : Nat} {l : List Bool} (h : BRow w b l) (j : Nat) : w.frozen? ⟨b, j, none⟩ = false := frozen_heap h j
theorem BRow.set {w : World} {b : Nat} {l : List Bool} (h : BRow w b l) (j : Nat) (x : Bool) : BRow (w.setCell ⟨b, j, none⟩ (.bool x)) b (l.set j x) := by
  have := rowSet h j (.bool x)
  unfold BRow
  rw [this]
  simp
theorem BRow.below {w w' : World} {b : Nat} {l : List Bool} (h : BRow w b l) (hb : Below w.heap.size w w') : BRow w' b l := (hb.block b h.lt).trans h
theorem BRow.keep {w w' : World} {b : Nat} {l : List Bool} (h : BRow w b l) {P : Nat → Prop} (hk : Keeps P w w') (hp : P b) : BRow w' b l := (hk.2 b h.lt hp).trans h

/-- How many are not marked. -/
def ubs (l : List Bool) : Nat := l.countP (fun x => !x)
theorem ubs_set {l : List Bool} {n : Nat} (hn : n < l.length) (h : l[n] = false) : ubs (l.set n true) + 1 = ubs l := by
  unfold ubs
  have hsplit : l = l.take n ++ l[n] :: l.drop (n + 1) := by rw [← List.drop_eq_getElem_cons hn, List.take_append_drop]
  have e1 : l.set n true = l.take n ++ true :: l.drop (n + 1) := by
    rw [List.set_eq_take_append_cons_drop, if_pos hn]
  rw [e1]
  conv => rhs; rw [hsplit]
  rw [List.countP_append, List.countP_append, List.countP_cons, List.countP_cons, h]
  simp
  omega
def isF : Value → Bool
  | .bool false => true
  | _ => false
/-- The same, read off the memory. -/
def ubW (w : World) (b : Nat) : Nat := match w.heap[b]? with
  | some (.cells cs _ _) => cs.toList.countP isF
  | _ => 0
theorem BRow.ub {w : World} {b : Nat} {l : List Bool} (h : BRow w b l) : ubW w b = ubs l := by
  unfold ubW ubs
  rw [h]
  simp only [List.countP_map]
  congr 1
  funext x
  cases x <;> rfl
def isT : Value → Nat
  | .bool true => 1
  | _ => 0

/-- All that is marked can be come to, and all roots are marked. -/
structure SkB (s : St) (rs : List (Int × Int)) (l : List Bool) : Prop where
  len : l.length = s.os.length
  rch : ∀ i : Nat, l[i]? = some true → Rch s rs i
  root : ∀ n : Nat, ((7 : Int), (n : Int)) ∈ rs → l[n]? = some true
/-- What a marked one holds is marked. -/
def Clo (s : St) (l : List Bool) (m : Nat) : Prop := l[m]? = some true → ∀ o, s.os[m]? = some o → ∀ n : Nat, ((7 : Int), (n : Int)) ∈ o.s → l[n]? = some true
theorem set_keeps {l : List Bool} {n m : Nat} (h : l[m]? = some true) : (l.set n true)[m]? = some true := by
  rw [List.getElem?_set]
  by_cases e : n = m
  · subst e
    rw [if_pos rfl, if_pos (List.getElem?_eq_some_iff.1 h).1]
  · rw [if_neg e]; exact h
theorem SkB.mark {s : St} {rs : List (Int × Int)} {l : List Bool} (h : SkB s rs l) {n : Nat} (hr : Rch s rs n) : SkB s rs (l.set n true) := by
  refine ⟨by rw [List.length_set]; exact h.len, fun i hi => ?_, fun m hm => set_keeps (h.root m hm)⟩
  rw [List.getElem?_set] at hi
  by_cases e : n = i
  · subst e; exact hr
  · rw [if_neg e] at hi; exact h.rch i hi
theorem SkB.done {s : St} {rs : List (Int × Int)} {l : List Bool} (h : SkB s rs l) (hc : ∀ m, Clo s l m) (n : Nat) (hn : n < s.os.length) : l[n]? = some (rchB s rs n) := by
  have hiff : ∀ n, Rch s rs n → l[n]? = some true := by
    intro n hr
    induction hr with
    | root h1 => exact h.root _ h1
    | step _ ho h1 ih => exact hc _ ih _ ho _ h1
  cases hb : rchB s rs n with
  | true => exact hiff n (rchB_iff.1 hb)
  | false =>
    have hl : n < l.length := by rw [h.len]; exact hn
    rw [List.getElem?_eq_getElem hl]
    cases hx : l[n] with
    | false => rfl
    | true =>
      have := rchB_iff.2 (h.rch n (by rw [List.getElem?_eq_getElem hl, hx]))
      rw [hb] at this; cases this
/-- Roots are being marked. -/
structure RtB (s : St) (rs : List (Int × Int)) (l : List Bool) (k : Nat) : Prop where
  len : l.length = s.os.length
  rch : ∀ i : Nat, l[i]? = some true → Rch s rs i
  root : ∀ (j : Nat) (n : Nat), j < k → rs[j]? = some ((7 : Int), (n : Int)) → l[n]? = some true
theorem RtB.start {s : St} {rs : List (Int × Int)} : RtB s rs (List.replicate s.os.length false) 0 :=
  ⟨by simp, fun i hi => (by rw [List.getElem?_replicate] at hi; split at hi <;> cases hi), fun j n hj => absurd hj (Nat.not_lt_zero _)⟩
theorem RtB.skip {s : St} {rs : List (Int × Int)} {l : List Bool} {k : Nat} (h : RtB s rs l k) (hk : k < rs.length) (h7 : (rs[k]'hk).1 ≠ 7) : RtB s rs l (k + 1) :=
  ⟨h.len, h.rch, fun j n hj hr => by
    rcases Nat.lt_or_ge j k with hl | hl
    · exact h.root j n hl hr
    · obtain rfl : j = k := by omega
      rw [List.getElem?_eq_getElem hk] at hr
      exact absurd (by rw [Option.some.inj hr]) h7⟩
theorem RtB.mark {s : St} {rs : List (Int × Int)} {l : List Bool} {k n : Nat} (h : RtB s rs l k) (hr : rs[k]? = some ((7 : Int), (n : Int))) (hn : n < s.os.length) : RtB s rs (l.set n true) (k + 1) := by
  refine ⟨by rw [List.length_set]; exact h.len, fun i hi => ?_, fun j m hj hm => ?_⟩
  · rw [List.getElem?_set] at hi
    by_cases e : n = i
    · subst e; exact .root (List.mem_of_getElem? hr)
    · rw [if_neg e] at hi; exact h.rch i hi
  · rcases Nat.lt_or_ge j k with hl | hl
    · exact set_keeps (h.root j m hl hm)
    · obtain rfl : j = k := by omega
      rw [hr] at hm
      have e : n = m := by have := Option.some.inj hm; simp only [Prod.mk.injEq, true_and] at this; omega
      subst e
      rw [List.getElem?_set, if_pos rfl, if_pos (by rw [h.len]; exact hn)]
theorem RtB.fin {s : St} {rs : List (Int × Int)} {l : List Bool} (h : RtB s rs l rs.length) : SkB s rs l :=
  ⟨h.len, h.rch, fun n hn => by
    obtain ⟨j, hj, e⟩ := List.getElem_of_mem hn
    exact h.root j n hj (by rw [List.getElem?_eq_getElem hj, e])⟩

/-- Places, as far as they are written. -/
def plN (K : Nat → Bool) (n i : Nat) : List Int := (List.range n).map fun j => if j < i ∧ K j = true then ((plc K j : Nat) : Int) else 0
theorem plN_len (K : Nat → Bool) (n i : Nat) : (plN K n i).length = n := by simp [plN]
theorem plN_zero (K : Nat → Bool) (n : Nat) : plN K n 0 = List.replicate n 0 := by
  apply List.ext_getElem <;> simp [plN]
theorem plN_yes {K : Nat → Bool} {n i : Nat} (hK : K i = true) : plN K n (i + 1) = (plN K n i).set i ((plc K i : Nat) : Int) := by
  apply List.ext_getElem
  · simp [plN]
  · intro j h1 h2
    rw [List.getElem_set]
    simp only [plN, List.getElem_map, List.getElem_range]
    by_cases e : i = j
    · subst e; rw [if_pos ⟨by omega, hK⟩, if_pos rfl]
    · rw [if_neg e]
      by_cases hj : j < i ∧ K j = true
      · rw [if_pos hj, if_pos ⟨by omega, hj.2⟩]
      · rw [if_neg hj, if_neg (fun h => hj ⟨by omega, h.2⟩)]
theorem plN_no {K : Nat → Bool} {n i : Nat} (hK : K i = false) : plN K n (i + 1) = plN K n i := by
  unfold plN
  apply List.map_congr_left
  intro j _
  by_cases hj : j < i ∧ K j = true
  · rw [if_pos hj, if_pos ⟨by omega, hj.2⟩]
  · rw [if_neg hj, if_neg]
    rintro ⟨h1, h2⟩
    rcases Nat.lt_or_eq_of_le (Nat.le_of_lt_succ h1) with h3 | rfl
    · exact hj ⟨h3, h2⟩
    · rw [hK] at h2; cases h2
theorem plN_at {K : Nat → Bool} {n j : Nat} (hj : j < n) (hK : K j = true) : (plN K n n)[j]'(by rw [plN_len]; exact hj) = ((plc K j : Nat) : Int) := by
  simp only [plN, List.getElem_map, List.getElem_range]
  rw [if_pos ⟨hj, hK⟩]

def RO.mv (K : Nat → Bool) (m : RO) : RO := { m with o := m.o.mv K }
theorem roL_mv (K : Nat → Bool) (m : RO) : roL (m.mv K) = roL m := rfl
theorem kpt_ro {K : Nat → Bool} {ms : List RO} : ∀ k, k ≤ ms.length → roLs (kpt K (RO.mv K) ms k) = roLs (kpt K id ms k)
  | 0, _ => rfl
  | k + 1, hk => by
    rw [kpt_succ (by omega), kpt_succ (by omega), roLs_append, roLs_append, kpt_ro k (by omega)]
    congr 1
    cases K k
    · rfl
    · show roLs [RO.mv K _] = roLs [id _]
      rw [roLs_one, roLs_one]; rfl
/-- The roles that blocks have then. -/
def Qleft (K : Nat → Bool) (Q : Nat → Nat) (lv : Value) (b : Nat) : Nat := if lv.ownBlock = some b then 2 else if Q b = 2 then 4 else if Q b < 6 then Q b else if K (Q b - 6) then 6 + plc K (Q b - 6) else 4
theorem Qleft_old {K : Nat → Bool} {Q : Nat → Nat} {lv : Value} {b : Nat} (hl : lv.ownBlock ≠ some b) : Qleft K Q lv b = 0 ↔ Q b = 0 := by
  unfold Qleft
  rw [if_neg hl]
  split
  · omega
  · split
    · exact Iff.rfl
    · split <;> omega
theorem Qleft_low {K : Nat → Bool} {Q : Nat → Nat} {lv : Value} {b : Nat} (hl : lv.ownBlock ≠ some b) (h2 : Q b ≠ 2) (h : Q b < 6) : Qleft K Q lv b = Q b := by unfold Qleft; rw [if_neg hl, if_neg h2, if_pos h]
/-- Slots are being renumbered. -/
structure LpI (w wr : World) (Q : Nat → Nat) (ms : List RO) (K : Nat → Bool) (B : Nat) (lv : Value) (pb : Nat) (σ : Nat → List (Int × Int)) : Prop where
  row : wr.ownsRow B 83 10 lv (plc K ms.length) (roLs (kpt K id ms ms.length))
  pl : IRow wr pb (plN K ms.length ms.length)
  srow : ∀ (j : Nat) (hj : j < ms.length), wr.ownsRow 0 35 2 (ms[j]'hj).sv (ms[j]'hj).o.s.length (vcs (σ j))
  kp : Keeps (fun b => Q b < 6) w wr
  fr : Fr Q w wr
theorem LpI.set {w wr : World} {g : Nat} {Q : Nat → Nat} {s : St} {ms : List RO} {ov nv : Value} {K : Nat → Bool} {B : Nat} {lv : Value} {pb : Nat} {σ : Nat → List (Int × Int)} (hm : RsM w g Q s ms ov nv) (h : LpI w wr Q ms K B lv pb σ) (hB : w.heap.size ≤ B) (hpb : w.heap.size ≤ pb)
    {j : Nat} (hj : j < ms.length) {sb sc : Nat} (hsv : (ms[j]'hj).sv = .slice (some ⟨sb, 0, none⟩) (ms[j]'hj).o.s.length sc) {k : Nat} (hk : k < (σ j).length) (hkl : (σ j).length = (ms[j]'hj).o.s.length) {t n : Int} (ht : ((σ j)[k]'hk).1 = t) :
    LpI w (wr.setCell ⟨sb, k * 2 + 1, none⟩ (.int .i64 n)) Q ms K B lv pb (fun i => if i = j then (σ j).set k (t, n) else σ i) := by
  have hq : Q sb = 6 + j := hm.sQ j hj sb (by rw [hsv]; rfl)
  have hlt : sb < w.heap.size := hm.lt sb (by omega)
  have hke : Keeps (fun b => b ≠ sb) wr (wr.setCell ⟨sb, k * 2 + 1, none⟩ (.int .i64 n)) := (Keeps.refl _ _).set (fun h => h rfl) _
  refine ⟨ownsRow_keep h.row hke fun b hb e => ?_, h.pl.keep hke (by omega), fun i hi => ?_, ?_, ?_⟩
  · have := (h.row.lt b hb).1
    omega
  · by_cases e : i = j
    · subst e
      simp only [if_true]
      have h1 := h.srow i hi
      rw [hsv] at h1 ⊢
      have h2 := ownsRow_set h1 (j := k * 2 + 1) (by rw [vcs_len]; omega) (.int .i64 n)
      rw [← vcs_set1 hk (x := (t, n)) ht] at h2
      exact h2
    · simp only [if_neg e]
      exact ownsRow_keep (h.srow i hi) hke fun b hb e2 => by have := hm.sQ i hi b hb; rw [e2] at this; omega
  · exact h.kp.set (p := ⟨sb, k * 2 + 1, none⟩) (by simp only; omega) _
  · exact h.fr.set (p := ⟨sb, k * 2 + 1, none⟩) (.inr (by simp only; omega)) _
theorem LpI.drew {w wr : World} {Q : Nat → Nat} {ms : List RO} {K : Nat → Bool} {B : Nat} {lv : Value} {pb : Nat} {σ : Nat → List (Int × Int)} (h : LpI w wr Q ms K B lv pb σ) : LpI w wr.drew Q ms K B lv pb σ :=
  ⟨h.row, h.pl, h.srow, h.kp, h.fr.drew⟩
theorem LpI.below {w wr wr' : World} {Q : Nat → Nat} {ms : List RO} {K : Nat → Bool} {B : Nat} {lv : Value} {pb : Nat} {σ : Nat → List (Int × Int)} (h : LpI w wr Q ms K B lv pb σ) (hb : Below wr.heap.size wr wr') : LpI w wr' Q ms K B lv pb σ :=
  ⟨ownsRow_keep h.row (Keeps.of_below (P := fun _ => True) hb) fun _ _ => trivial, h.pl.below hb, fun j hj => ownsRow_keep (h.srow j hj) (Keeps.of_below (P := fun _ => True) hb) fun _ _ => trivial, h.kp.trans (Keeps.of_below hb), h.fr.belowThen hb⟩
theorem LpI.ext {w wr : World} {Q : Nat → Nat} {ms : List RO} {K : Nat → Bool} {B : Nat} {lv : Value} {pb : Nat} {σ τ : Nat → List (Int × Int)} (h : LpI w wr Q ms K B lv pb σ) (he : ∀ j, j < ms.length → σ j = τ j) : LpI w wr Q ms K B lv pb τ :=
  ⟨h.row, h.pl, fun j hj => by rw [← he j hj]; exact h.srow j hj, h.kp, h.fr⟩
/-- What each one's slots are: the kept ones ahead of place i have their new numbers. -/
def slP (K : Nat → Bool) (ms : List RO) (i j : Nat) : List (Int × Int) := match ms[j]? with
  | some m => if K j = true ∧ plc K j < i then m.o.s.map (mvV K) else m.o.s
  | none => []
theorem slP_zero {K : Nat → Bool} {ms : List RO} {j : Nat} (hj : j < ms.length) : slP K ms 0 j = (ms[j]'hj).o.s := by
  unfold slP
  rw [List.getElem?_eq_getElem hj]
  simp
theorem slP_at {K : Nat → Bool} {ms : List RO} {j : Nat} (hj : j < ms.length) : slP K ms (plc K j) j = (ms[j]'hj).o.s := by
  unfold slP
  rw [List.getElem?_eq_getElem hj]
  simp
theorem slP_full {K : Nat → Bool} {ms : List RO} {j : Nat} (hj : j < ms.length) (hK : K j = true) : slP K ms (plc K ms.length) j = (ms[j]'hj).o.s.map (mvV K) := by
  unfold slP
  rw [List.getElem?_eq_getElem hj]
  simp only
  rw [if_pos ⟨hK, plc_lt K hK hj⟩]
theorem plc_inj {K : Nat → Bool} {i j : Nat} (hi : K i = true) (hj : K j = true) (h : plc K i = plc K j) : i = j := by
  rcases Nat.lt_trichotomy i j with h1 | h1 | h1
  · have := plc_lt K hi h1; omega
  · exact h1
  · have := plc_lt K hj h1; omega
theorem slP_succ {K : Nat → Bool} {ms : List RO} {j : Nat} (hj : j < ms.length) (hK : K j = true) (i : Nat) (hi : i < ms.length) : slP K ms (plc K j + 1) i = if i = j then (ms[j]'hj).o.s.map (mvV K) else slP K ms (plc K j) i := by
  by_cases e : i = j
  · subst e
    rw [if_pos rfl]
    unfold slP
    rw [List.getElem?_eq_getElem hj]
    simp only
    rw [if_pos ⟨hK, by omega⟩]
  · rw [if_neg e]
    unfold slP
    rw [List.getElem?_eq_getElem hi]
    simp only
    by_cases h : K i = true ∧ plc K i < plc K j
    · rw [if_pos h, if_pos ⟨h.1, by omega⟩]
    · rw [if_neg h, if_neg]
      rintro ⟨h1, h2⟩
      exact e (plc_inj h1 hK (by have : ¬ plc K i < plc K j := fun h3 => h ⟨h1, h3⟩; omega))
theorem RsM.lpi {w wr : World} {g : Nat} {Q : Nat → Nat} {s : St} {ms : List RO} {ov nv : Value} (hm : RsM w g Q s ms ov nv) {K : Nat → Bool} {B : Nat} {lv : Value} {pb : Nat} (hb : Below w.heap.size w wr)
    (hrow : wr.ownsRow B 83 10 lv (plc K ms.length) (roLs (kpt K id ms ms.length))) (hpl : IRow wr pb (plN K ms.length ms.length)) : LpI w wr Q ms K B lv pb (slP K ms 0) :=
  ⟨hrow, hpl, fun j hj => by rw [slP_zero hj]; exact ownsRow_keep (hm.srow j hj) (Keeps.of_below (P := fun _ => True) hb) fun _ _ => trivial, Keeps.of_below hb, Fr.of_below hb⟩
/-- All that is left, as a list again. -/
theorem RsM.leave {w wr : World} {g : Nat} {Q : Nat → Nat} {s : St} {ms : List RO} {nv ov lv : Value} {B : Nat} (h : RsM w g Q s ms ov nv) {K : Nat → Bool} (hK : ∀ (m n : Nat) (o : Ob), K m = true → s.os[m]? = some o → ((7 : Int), (n : Int)) ∈ o.s → K n = true) (hB : w.heap.size ≤ B)
    (hbox : wr.heap[g]? = some (.cells #[.int .i64 (s.L : Nat), .int .i64 ((s.left K).U : Nat), lv, nv] 32 (0, 0)))
    (hrow : wr.ownsRow B 83 10 lv (plc K ms.length) (roLs (kpt K id ms ms.length)))
    (hsrow : ∀ (i : Nat) (hi : i < ms.length), K i = true → wr.ownsRow 0 35 2 (ms[i]'hi).sv (ms[i]'hi).o.s.length (vcs ((ms[i]'hi).o.s.map (mvV K)))) (hkp : Keeps (fun b => Q b < 6 ∧ b ≠ g) w wr) :
    RsM wr g (Qleft K Q lv) (s.left K) (kpt K (RO.mv K) ms ms.length) lv nv := by
  have hlen : (kpt K (RO.mv K) ms ms.length).length = plc K ms.length := kpt_len (Nat.le_refl _)
  have hlv : ∀ b, lv.ownBlock = some b → w.heap.size ≤ b := fun b hb => Nat.le_trans hB (hrow.lt b hb).1
  have hold : ∀ b, Q b ≠ 0 → lv.ownBlock ≠ some b := fun b hb e => by have := hlv b e; have := h.lt b hb; omega
  have hgQ := h.gQ
  have hat : ∀ (j : Nat) (hj : j < (kpt K (RO.mv K) ms ms.length).length), ∃ (i : Nat) (hi : i < ms.length), K i = true ∧ plc K i = j ∧ (kpt K (RO.mv K) ms ms.length)[j] = (ms[i]'hi).mv K := by
    intro j hj
    obtain ⟨i, hi, hKi, hp⟩ := kpt_inv (K := K) (k := ms.length) (j := j) (by omega)
    have := kpt_get (K := K) (f := RO.mv K) (Nat.le_refl _) hi hKi
    rw [hp, List.getElem?_eq_getElem hj] at this
    exact ⟨i, hi, hKi, hp, Option.some.inj this⟩
  refine ⟨h.ok.left hK, ?_, fun b hb => ?_, ?_, hbox, ?_, fun b hb => ?_, fun j hj => ?_, fun j hj b hb => ?_, ?_, fun b hb => ?_⟩
  · show kpt K (Ob.mv K) s.os s.os.length = _
    have h1 := kpt_map (K := K) (f := RO.mv K) (f' := Ob.mv K) RO.o (fun _ => rfl) (l := ms) ms.length (Nat.le_refl _)
    rw [h1, h.eqs, List.length_map]
  · by_cases hl : lv.ownBlock = some b
    · exact (hrow.lt b hl).2
    · exact Nat.lt_of_lt_of_le (h.lt b fun h0 => hb ((Qleft_old hl).2 h0)) hkp.1
  · rw [Qleft_low (hold g (by omega)) (by omega) (by omega)]; exact hgQ
  · rw [hlen, kpt_ro _ (Nat.le_refl _)]
    exact ⟨hrow.1, hrow.2.imp id fun ⟨a, c, cu, e, _, h⟩ => ⟨a, c, cu, e, Nat.zero_le _, h⟩⟩
  · unfold Qleft; rw [if_pos hb]
  · obtain ⟨i, hi, hKi, _, e⟩ := hat j hj
    rw [e]
    have h1 := hsrow i hi hKi
    have h2 : ((ms[i]'hi).mv K).o.s.length = (ms[i]'hi).o.s.length := by simp [RO.mv, Ob.mv]
    rw [h2]
    exact h1
  · obtain ⟨i, hi, hKi, hp, e⟩ := hat j hj
    rw [e] at hb
    have h1 := h.sQ i hi b hb
    unfold Qleft
    rw [if_neg (hold b (by omega)), h1, if_neg (by omega), if_neg (by omega), show 6 + i - 6 = i by omega, if_pos hKi, hp]
  · exact ownsRow_keep h.nrow hkp fun b hb => by have := h.nQ b hb; exact ⟨by omega, fun e => by subst e; omega⟩
  · have := h.nQ b hb
    rw [Qleft_low (hold b (by omega)) (by omega) (by omega)]; exact this
theorem roL_shape {m : RO} {so : Option Addr} {n sc : Nat} (h : m.sv = .slice so n sc) : ∃ pk pt pn pa, roL m = [.int .i64 m.o.k, .slice so n sc, .int .i64 pk, .string pt, .bool pn, .slice none 0 0, .slice none 0 0, .int .i64 pa, .slice none 0 0, .slice none 0 0] := by
  unfold roL
  rw [h]
  cases m.o.x with
  | none => exact ⟨_, _, _, _, rfl⟩
  | some p => exact ⟨_, _, _, _, rfl⟩
theorem row1o (w : World) (cs : List Value) (e : TypeId) : RowV (w.alloc (.cells cs.toArray e)) (.slice (some ⟨w.heap.size, 0, none⟩) 1 1) 1 cs.length cs := by
  refine ⟨by omega, by unfold maxLen; omega, _, 1, rfl, Nat.le_refl _, .inr ⟨_, 0, rfl, by simp, fun j u hu => ?_⟩⟩
  rw [cell_of_row _ w.heap.size (0 + j) _ _ (0, 0) (heap_alloc_new w _), Nat.zero_add]
  simpa using hu
/-- Marks, places, and what is left so far: new, and apart. -/
structure LfI (w wz : World) (sb pb B : Nat) (l0 : List Bool) (P : List Int) (lv : Value) (p : Nat) (xs : List Value) : Prop where
  bel : Below w.heap.size w wz
  br : BRow wz sb l0
  pl : IRow wz pb P
  row : wz.ownsRow B 83 10 lv p xs
  lo : w.heap.size ≤ sb ∧ sb < pb ∧ pb < B ∧ B ≤ wz.heap.size
section
variable {w wz wz' : World} {sb pb B : Nat} {l0 : List Bool} {P : List Int} {lv : Value} {p : Nat} {xs : List Value}
theorem LfI.below (h : LfI w wz sb pb B l0 P lv p xs) (hb : Below wz.heap.size wz wz') : LfI w wz' sb pb B l0 P lv p xs :=
  ⟨h.bel.trans (hb.mono h.bel.size), h.br.below hb, h.pl.below hb, ownsRow_keep h.row (Keeps.of_below (P := fun _ => True) hb) fun _ _ => trivial, h.lo.1, h.lo.2.1, h.lo.2.2.1, Nat.le_trans h.lo.2.2.2 hb.size⟩
theorem LfI.put (h : LfI w wz sb pb B l0 P lv p xs) (j : Nat) (x : Int) : LfI w (wz.setCell ⟨pb, j, none⟩ (.int .i64 x)) sb pb B l0 (P.set j x) lv p xs := by
  have hk : Keeps (fun b => b ≠ pb) wz (wz.setCell ⟨pb, j, none⟩ (.int .i64 x)) := (Keeps.refl _ _).set (fun h => h rfl) _
  have := h.lo
  refine ⟨h.bel.setCell (p := ⟨pb, j, none⟩) (by simp only; omega) _, h.br.keep hk (by omega), h.pl.set j x, ownsRow_keep h.row hk fun b hb e => ?_, h.lo.1, h.lo.2.1, h.lo.2.2.1, by simpa using h.lo.2.2.2⟩
  have := (h.row.lt b hb).1
  omega
theorem LfI.grow {lv' : Value} {p' : Nat} {xs' : List Value} (h : LfI w wz sb pb B l0 P lv p xs) (hown : wz'.ownsRow B 83 10 lv' p' xs') (hg : wz.grownBy wz' lv.ownBlock) : LfI w wz' sb pb B l0 P lv' p' xs' := by
  have hl : ∀ b, lv.ownBlock = some b → B ≤ b := fun b hb => (h.row.lt b hb).1
  have hk : Keeps (fun b => lv.ownBlock ≠ some b) wz wz' := Keeps.of_grown hg fun b e hn => hn e
  have := h.lo
  have hsz := hg.size
  exact ⟨h.bel.grown hg h.bel.size (fun q hq => by have := hl q hq; omega), h.br.keep hk (fun e => by have := hl _ e; omega), h.pl.keep hk (fun e => by have := hl _ e; omega), hown, h.lo.1, h.lo.2.1, h.lo.2.2.1, by omega⟩
end
end Go.Proofs.Ytioidaojnbenbaa
namespace Go.Proofs.Ytioidaojnbenbaa
open Go.RowKit

theorem infoBo : (Try.prog.info? 4).map (fun i => (i.zero, i.size, i.bytes)) = some (some (.bool false), 1, 1) := by kernel_rfl
theorem made_bools {w1 : World} {B b n : Nat} (h : w1.ownsRow B 4 1 (.slice (some ⟨b, 0, none⟩) n n) n (madeCells (Value.bool false).cells (n * 1)).toList) : BRow w1 b (List.replicate n false) := by
  rcases h.2 with ⟨h, _⟩ | ⟨g2, cap2, cur, e, _, hc, _, _, hs, ht⟩
  · cases h
  · simp only [Value.slice.injEq, Option.some.injEq, Addr.mk.injEq, true_and] at e
    obtain ⟨⟨rfl, _⟩, rfl⟩ := e
    unfold BRow
    rw [hc]
    have h1 : cur.toList = (List.replicate n false).map Value.bool := by
      rw [List.take_of_length_le (by simp; omega)] at ht
      rw [ht]
      have e2 : (Value.bool false).cells = #[Value.bool false] := rfl
      rw [Nat.mul_one, e2, toList_madeCells_one]
      simp
    rw [← h1]
theorem made_ints {w1 : World} {B b n : Nat} (h : w1.ownsRow B 3 1 (.slice (some ⟨b, 0, none⟩) n n) n (madeCells (Value.int .i64 0).cells (n * 1)).toList) : IRow w1 b (List.replicate n 0) := by
  rcases h.2 with ⟨h, _⟩ | ⟨g2, cap2, cur, e, _, hc, _, _, hs, ht⟩
  · cases h
  · simp only [Value.slice.injEq, Option.some.injEq, Addr.mk.injEq, true_and] at e
    obtain ⟨⟨rfl, _⟩, rfl⟩ := e
    unfold IRow
    rw [hc]
    have h1 : cur.toList = ics .i64 (List.replicate n 0) := by
      rw [List.take_of_length_le (by simp; omega)] at ht
      rw [ht]
      have e2 : (Value.int .i64 0).cells = #[Value.int .i64 0] := rfl
      rw [Nat.mul_one, e2, toList_madeCells_one]
      simp [ics]
    rw [← h1]

set_option maxRecDepth 100000 in
set_option maxHeartbeats 16000000 in
theorem rcollect_any (g : Nat) (Q : Nat → Nat) (s : St) (lv : Value) (rs : List (Int × Int)) (w : World) (h : RsW w g Q s) (hrk : ∀ o ∈ s.os, RkOk o) (hr : RowV w lv rs.length 2 (vcs rs)) (hl : rs.length ≤ 2000000) (hrq : InP (fun b => Q b = 0) rs.length lv) :
    Calls Try.prog 35 #[.pointer (some ⟨g, 0, none⟩), lv] w fun e w' =>
      (rs.all (sdV s.os.length s.ns.length) = false ∧ e = .returned (.tuple #[.slice none 0 0, .int .i64 2]) ∧ Below w.heap.size w w') ∨
      (rs.all (sdV s.os.length s.ns.length) = true ∧ ∃ out, e = .returned (.tuple #[out, .int .i64 0]) ∧ RsP w g Q (s.col rs) w' ∧ RowV w' out rs.length 2 (vcs (rs.map (mvV (rchB s rs))))) := by
  obtain ⟨ib, hib, hbz0, hbz1, hbz2⟩ := info_parts infoBo
  have HIB := Lib.hid (And.intro hib (And.intro hbz0 (And.intro hbz1 hbz2)))
  obtain ⟨ii, hii0, hiz0, hiz1, hiz2⟩ := info_parts infoInt
  have HII := Lib.hid (And.intro hii0 (And.intro hiz0 (And.intro hiz1 hiz2)))
  clear hib hbz0 hbz1 hbz2 hii0 hiz0 hiz1 hiz2
  obtain ⟨ms, ov, nv, hm⟩ := h
  obtain ⟨oo, oc, rfl⟩ := own_dslice hm.orow
  obtain ⟨lo, lc, rfl⟩ := rowv_slice hr
  have hol := hm.len
  have hosl := hm.ok.len
  have hml : ms.length ≤ 1048576 := by rw [← hol]; exact hosl
  have hbox := hm.box
  have hgl := hm.glt
  have HM := Lib.hid hm
  have HR := Lib.hid hr
  have HRQ := Lib.hid hrq
  have HRK := Lib.hid hrk
  have HOL := Lib.hid hol
  have HBX : Hid (∀ W, Below w.heap.size w W → W.cell? ⟨g, 2, none⟩ = some (.slice oo ms.length oc)) := Lib.hid fun W hW => cell_heap ((hW.block g hgl).trans hbox) 2
  have HGL := Lib.hid hgl
  clear hm hr hrq hrk hol hosl hbox hgl
  have hcol : s.col rs = s.left (rchB s rs) := rfl
  rw [hcol]
  have hKI : ∀ l, SkB s rs l → (∀ m, Clo s l m) → ∀ n, n < s.os.length → l[n]? = some (rchB s rs n) := fun l h1 h2 n hn => h1.done h2 n hn
  have hKC : ∀ (m n : Nat) (o : Ob), rchB s rs m = true → s.os[m]? = some o → ((7 : Int), (n : Int)) ∈ o.s → rchB s rs n = true := rch_closed
  have hKR : ∀ n : Nat, ((7 : Int), (n : Int)) ∈ rs → rchB s rs n = true := fun n hn => rchB_iff.2 (.root hn)
  clear hcol
  generalize rchB s rs = K at *
  have HKI := Lib.hid hKI
  have HKC := Lib.hid hKC
  have HKR := Lib.hid hKR
  clear hKI hKC hKR
  go_enter Try.func35, Try.ntmps35
  go_wp2_with fail
  go_loopw [6] (fun v wr => ∃ i : Nat, i ≤ rs.length ∧ v = .int .i64 (i : Nat) ∧ Below w.heap.size w wr ∧ ∀ j (hj : j < rs.length), j < i → sdV s.os.length s.ns.length (rs[j]'hj) = true) (fun v _ => rs.length - (intOf v).toNat)
  case atStart => exact ⟨0, Nat.zero_le _, rfl, Below.refl _ _, fun j hj h => absurd h (Nat.not_lt_zero _)⟩
  case round =>
    obtain ⟨i, hi, rfl, hbr, hsd⟩ := hrel
    have HBR := Lib.hid hbr
    have HSD := Lib.hid hsd
    clear hbr hsd
    by_cases hlt : i < rs.length
    · have hii : ((i : Nat) : Int) < ((rs.length : Nat) : Int) := by omega
      obtain ⟨rb, ro, rc2, e1, _, c0, c1⟩ := row_pair (HR.out.below HBR.out) rfl hlt
      injection e1 with e11 _ e13
      subst e11 e13
      have HX := Lib.hid (rfl : rs[i]'hlt = rs[i]'hlt)
      obtain ⟨x, hx⟩ : ∃ x, x = rs[i]'hlt := ⟨_, rfl⟩
      rw [← hx] at c0 c1
      have HXE := Lib.hid hx
      clear hx HX
      go_wp2_with fail
      refine (rsound_any g Q s x _ ⟨ms, _, _, HM.out.below HBR.out⟩).mono ?_
      rintro e w2 ⟨rfl, hb2⟩
      have HB2 := Lib.hid (HBR.out.trans (hb2.mono HBR.out.size))
      clear hb2 c0 c1
      cases hsx : sdV s.os.length s.ns.length x with
      | true =>
        have HSX := Lib.hid hsx
        clear hsx
        go_wp2_with fail
        go_roundw
        case measure => simp only [intOf]; omega
        case rel => exact ⟨i + 1, by omega, by go_num, HB2.out, fun j hj hji => by
          rcases Nat.lt_or_ge j i with h | h
          · exact HSD.out j hj h
          · obtain rfl : j = i := by omega
            rw [← HXE.out]; exact HSX.out⟩
      | false =>
        have HSX := Lib.hid hsx
        clear hsx
        go_wp2_with fail
        refine bodyPost_ret (v := .tuple #[.slice none 0 0, .int .i64 2]) (by simp [results, Try.results35, go_sem]) rfl (.inl ⟨?_, rfl, HB2.out⟩)
        rw [List.all_eq_false]
        exact ⟨x, by rw [HXE.out]; exact List.getElem_mem hlt, by rw [HSX.out]; decide⟩
    · have hge : ¬ ((i : Nat) : Int) < ((rs.length : Nat) : Int) := by omega
      have hall : rs.all (sdV s.os.length s.ns.length) = true := by
        rw [List.all_eq_true]
        intro x hx
        obtain ⟨j, hj, rfl⟩ := List.getElem_of_mem hx
        exact HSD.out j hj (by omega)
      have HALL := Lib.hid hall
      have c2 := HBX.out wr HBR.out
      clear hall HSD
      go_wp2_with (at_make; go_loud (refine wpList_make_full _ rfl _ _ 103 rfl w.heap.size 4 ib (.bool false) 1 Try.underlying103 HIB.out.1 HIB.out.2.1 HIB.out.2.2.1 _ _ _ _ ms.length rfl rfl (by omega) (by omega) (by rw [HIB.out.2.2.2]; omega) (by unfold maxLen; omega) HBR.out.size ?_); go_loud (intro w1 hown1 hgrow1))
      have HB1 : Hid (Below w.heap.size w w1) := Lib.hid (HBR.out.grown hgrow1 HBR.out.size (fun q hq => by cases hq))
      have HN1 : Hid (BRow w1 wr.heap.size (List.replicate s.os.length false)) := Lib.hid (by rw [HOL.out]; exact made_bools hown1)
      have HSB := Lib.hid HBR.out.size
      clear hown1 hgrow1 c2 hge hlt hi HBR
      generalize wr.heap.size = sb at *
      clear wr
      go_loopw [8] (fun v wr => ∃ (i : Nat) (l : List Bool), i ≤ rs.length ∧ v = .int .i64 (i : Nat) ∧ Below w.heap.size w wr ∧ BRow wr sb l ∧ RtB s rs l i) (fun v _ => rs.length - (intOf v).toNat)
      case atStart => exact ⟨0, _, Nat.zero_le _, rfl, HB1.out, HN1.out, RtB.start⟩
      case round =>
        obtain ⟨i, l, hi, rfl, hbr, hbl, hrt⟩ := hrel
        have HBR := Lib.hid hbr
        have HBL := Lib.hid hbl
        have HRT := Lib.hid hrt
        clear hbr hbl hrt HB1 HN1
        by_cases hlt : i < rs.length
        · have hii : ((i : Nat) : Int) < ((rs.length : Nat) : Int) := by omega
          obtain ⟨rb, ro, rc2, e1, _, c0, c1⟩ := row_pair (HR.out.below HBR.out) rfl hlt
          injection e1 with e11 _ e13
          subst e11 e13
          have hsx := List.all_eq_true.1 HALL.out _ (List.getElem_mem hlt)
          have hxg := List.getElem?_eq_getElem hlt
          have HSX := Lib.hid hsx
          have HXG := Lib.hid hxg
          have HSK := Lib.hid (HRT.out.skip hlt)
          clear hsx hxg
          generalize rs[i]'hlt = x at *
          obtain ⟨x0, x1⟩ := x
          simp only at c0 c1
          by_cases h7 : x0 = 7
          · subst h7
            obtain ⟨m, hxm, hmn⟩ := sd_in HSX.out rfl
            simp only [Prod.mk.injEq, true_and] at hxm
            subst hxm
            have hml2 : m < ms.length := by rw [← HOL.out]; exact hmn
            have hmi : ((m : Nat) : Int) < ((ms.length : Nat) : Int) := by omega
            have hf := HBL.out.frozen m
            have HMN := Lib.hid hmn
            have d0 := HBL.out.cell (j := m) (by rw [HRT.out.len]; exact hmn)
            clear HSK
            go_wp2_with fail
            go_roundw
            case measure => simp only [intOf]; omega
            case rel => exact ⟨i + 1, l.set m true, by omega, by go_num, HBR.out.setCell HSB.out _, HBL.out.set m true, HRT.out.mark HXG.out HMN.out⟩
          · have h7b : (x0 == 7) = false := by rw [beq_eq_false_iff_ne]; exact h7
            have HR2 := Lib.hid (HSK.out h7)
            clear h7 HSK
            go_wp2_with fail
            go_roundw
            case measure => simp only [intOf]; omega
            case rel => exact ⟨i + 1, l, by omega, by go_num, HBR.out, HBL.out, HR2.out⟩
        · have hge : ¬ ((i : Nat) : Int) < ((rs.length : Nat) : Int) := by omega
          obtain rfl : i = rs.length := by omega
          have HSK := Lib.hid HRT.out.fin
          clear HRT hi hlt
          go_wp2_with fail
          go_loopw [9] (fun v wx => ∃ (mo : Bool) (l : List Bool), v = .bool mo ∧ Below w.heap.size w wx ∧ BRow wx sb l ∧ SkB s rs l ∧ (mo = false → ∀ m, Clo s l m)) (fun v wx => 2 * ubW wx sb + isT v)
          case atStart => exact ⟨true, _, rfl, HBR.out, HBL.out, HSK.out, fun h => by cases h⟩
          case round =>
            obtain ⟨mo, l0, rfl, hbr0, hbl0, hsk0, hcl0⟩ := hrel
            have HBR0 := Lib.hid hbr0
            have HBL0 := Lib.hid hbl0
            have HSK0 := Lib.hid hsk0
            have HCL0 := Lib.hid hcl0
            clear hbr0 hbl0 hsk0 hcl0 HBR HBL HSK
            cases mo with
            | true =>
              have HU0 := Lib.hid HBL0.out.ub
              go_wp2_with fail
              go_loopw [9, 10] (fun c v wy => ∃ (mo : Bool) (i : Nat) (l : List Bool), c = .bool mo ∧ v = .int .i64 (i : Nat) ∧ i ≤ ms.length ∧ Below w.heap.size w wy ∧ BRow wy sb l ∧ SkB s rs l ∧ ubs l ≤ ubs l0 ∧ (mo = true → ubs l < ubs l0) ∧ (mo = false → ∀ m, m < i → Clo s l m)) (fun _ v _ => ms.length - (intOf v).toNat)
              case atStart => exact ⟨false, 0, l0, rfl, rfl, Nat.zero_le _, HBR0.out, HBL0.out, HSK0.out, Nat.le_refl _, (fun h => by cases h), fun _ m hm => absurd hm (Nat.not_lt_zero _)⟩
              case round =>
                obtain ⟨mo, i, l, rfl, rfl, hi, hbr, hbl, hsk, hu, hut, hcl⟩ := hrel
                have HBR := Lib.hid hbr
                have HBL := Lib.hid hbl
                have HSK := Lib.hid hsk
                have HU := Lib.hid hu
                have HUT := Lib.hid hut
                have HCL := Lib.hid hcl
                clear hbr hbl hsk hu hut hcl
                have c2 := HBX.out wr HBR.out
                by_cases hlt : i < ms.length
                · have hii : ((i : Nat) : Int) < ((ms.length : Nat) : Int) := by omega
                  have hil : i < l.length := by rw [HSK.out.len, HOL.out]; exact hlt
                  have d0 := HBL.out.cell hil
                  have hlg := List.getElem?_eq_getElem hil
                  cases hls : l[i]'hil with
                  | false =>
                    rw [hls] at d0 hlg
                    have HLG := Lib.hid hlg
                    clear hls hlg
                    go_wp2_with fail
                    go_roundw
                    case measure => simp only [intOf]; omega
                    case rel => exact ⟨mo, i + 1, l, rfl, by go_num, by omega, HBR.out, HBL.out, HSK.out, HU.out, HUT.out, fun hmo m hm => by
                      rcases Nat.lt_or_ge m i with h | h
                      · exact HCL.out hmo m h
                      · obtain rfl : m = i := by omega
                        intro h1
                        rw [HLG.out] at h1
                        cases h1⟩
                  | true =>
                    rw [hls] at d0 hlg
                    have HLG := Lib.hid hlg
                    clear hls hlg
                    go_wp2_with fail
                    obtain ⟨so, sc, hsv⟩ := own_dslice (HM.out.srow i hlt)
                    have HSL : Hid (∀ W, Below w.heap.size w W → ∀ k (hk : k < (ms[i]'hlt).o.s.length), ∃ b2, so = some ⟨b2, 0, none⟩ ∧ W.cell? ⟨b2, k * 2, none⟩ = some (.int .i64 ((ms[i]'hlt).o.s[k]'hk).1) ∧ W.cell? ⟨b2, k * 2 + 1, none⟩ = some (.int .i64 ((ms[i]'hlt).o.s[k]'hk).2)) := Lib.hid fun W hW k hk => by
                      obtain ⟨b2, cap, e, _, _, _, q0, q1, _⟩ := (HM.out.below hW).slotAt hlt hk
                      rw [hsv] at e
                      injection e with e1 _ _
                      exact ⟨b2, e1, q0, q1⟩
                    have HMI : Hid (s.os[i]? = some (ms[i]'hlt).o) := Lib.hid (by rw [HM.out.eqs]; simp [hlt])
                    have HSND : Hid (∀ v ∈ (ms[i]'hlt).o.s, sdV s.os.length s.ns.length v = true) := Lib.hid fun v hv => HM.out.ok.snd _ (List.mem_of_getElem? HMI.out) v hv
                    have hsln : (ms[i]'hlt).o.s.length ≤ 1048576 := by
                      have h1 := le_sum (f := Ob.c) s.os _ (List.mem_of_getElem? HMI.out)
                      have h2 := HM.out.ok.cpos _ (List.mem_of_getElem? HMI.out)
                      have h3 := HM.out.ok.UL
                      have h4 := HM.out.ok.LM
                      have h5 := HM.out.ok.sum
                      omega
                    have HO : Hid (∀ W, Below w.heap.size w W → ∃ ob, oo = some ⟨ob, 0, none⟩ ∧ W.cell? ⟨ob, i * 10 + 1, none⟩ = some (.slice so (ms[i]'hlt).o.s.length sc)) := Lib.hid fun W hW => by
                      obtain ⟨ob, cap, e, _, _, _, _, q1⟩ := (HM.out.below hW).objAt hlt
                      injection e with e1 _ _
                      exact ⟨ob, e1, by rw [q1, hsv]⟩
                    clear hsv
                    generalize (ms[i]'hlt).o = o at *
                    obtain ⟨ok, ocs, sl, ox⟩ := o
                    simp only at HSL HMI HSND hsln HO
                    go_loopw [9, 11] (fun c v wz => ∃ (mo : Bool) (k : Nat) (l2 : List Bool), c = .bool mo ∧ v = .int .i64 (k : Nat) ∧ k ≤ sl.length ∧ Below w.heap.size w wz ∧ BRow wz sb l2 ∧ SkB s rs l2 ∧ ubs l2 ≤ ubs l0 ∧ (mo = true → ubs l2 < ubs l0) ∧ l2[i]? = some true ∧ (mo = false → (∀ m, m < i → Clo s l2 m) ∧ ∀ (t n : Nat), t < k → sl[t]? = some ((7 : Int), (n : Int)) → l2[n]? = some true)) (fun _ v _ => sl.length - (intOf v).toNat)
                    case atStart => exact ⟨mo, 0, l, rfl, rfl, Nat.zero_le _, HBR.out, HBL.out, HSK.out, HU.out, HUT.out, HLG.out, fun hmo => ⟨HCL.out hmo, fun t n ht => absurd ht (Nat.not_lt_zero _)⟩⟩
                    case round =>
                      obtain ⟨mo2, k, l2, rfl, rfl, hk, hbr2, hbl2, hsk2, hu2, hut2, hlg2, hcl2⟩ := hrel
                      have HBR2 := Lib.hid hbr2
                      have HBL2 := Lib.hid hbl2
                      have HSK2 := Lib.hid hsk2
                      have HU2 := Lib.hid hu2
                      have HUT2 := Lib.hid hut2
                      have HLG2 := Lib.hid hlg2
                      have HCL2 := Lib.hid hcl2
                      clear hbr2 hbl2 hsk2 hu2 hut2 hlg2 hcl2 c2 d0 HBR HBL HSK HU HUT HLG HCL hil
                      have c2 := HBX.out wr HBR2.out
                      obtain ⟨ob, rfl, o1⟩ := HO.out wr HBR2.out
                      by_cases hkl : k < sl.length
                      · have hki : ((k : Nat) : Int) < ((sl.length : Nat) : Int) := by omega
                        obtain ⟨b2, rfl, s0, s1⟩ := HSL.out wr HBR2.out k hkl
                        have HSX := Lib.hid (HSND.out _ (List.getElem_mem hkl))
                        have HSG := Lib.hid (List.getElem?_eq_getElem hkl)
                        generalize sl[k]'hkl = x at *
                        obtain ⟨x0, x1⟩ := x
                        simp only at s0 s1
                        have HBA := Lib.hid (HBR2.out.trans ((below1 wr (.cells #[.int .i64 x0, .int .i64 x1] 35)).mono HBR2.out.size))
                        have HNA := Lib.hid (box1 wr #[.int .i64 x0, .int .i64 x1] 35)
                        have HBLA := Lib.hid (HBL2.out.below (below1 wr (.cells #[.int .i64 x0, .int .i64 x1] 35)))
                        by_cases h7 : x0 = 7
                        · subst h7
                          obtain ⟨m, hxm, hmn⟩ := sd_in HSX.out rfl
                          simp only [Prod.mk.injEq, true_and] at hxm
                          subst hxm
                          have hml2 : m < ms.length := by rw [← HOL.out]; exact hmn
                          have hmi : ((m : Nat) : Int) < ((ms.length : Nat) : Int) := by omega
                          have hm2l : m < l2.length := by rw [HSK2.out.len]; exact hmn
                          have HMN := Lib.hid hmn
                          go_upto_region 23 with fail
                          generalize wr.alloc (.cells #[.int .i64 7, .int .i64 ((m : Nat) : Int)] 35) = wa at *
                          clear c2 o1 s0 s1
                          obtain ⟨p0, p1, _⟩ := row2 HNA.out
                          have d1 := HBLA.out.cell hm2l
                          have hf := HBLA.out.frozen m
                          have hmg := List.getElem?_eq_getElem hm2l
                          cases hlm : l2[m]'hm2l with
                          | true =>
                            rw [hlm] at d1 hmg
                            have HMG := Lib.hid hmg
                            clear hlm hmg
                            go_wp2_with fail
                            go_roundw
                            case measure => simp only [intOf]; omega
                            case rel => exact ⟨mo2, k + 1, l2, rfl, by go_num, by omega, HBA.out, HBLA.out, HSK2.out, HU2.out, HUT2.out, HLG2.out, fun hmo => ⟨(HCL2.out hmo).1, fun t n ht hs => by
                              rcases Nat.lt_or_ge t k with h | h
                              · exact (HCL2.out hmo).2 t n h hs
                              · obtain rfl : t = k := by omega
                                rw [HSG.out] at hs
                                have e : m = n := by have := Option.some.inj hs; simp only [Prod.mk.injEq, true_and] at this; omega
                                subst e
                                exact HMG.out⟩⟩
                          | false =>
                            rw [hlm] at d1 hmg
                            have HUS := Lib.hid (ubs_set hm2l hlm)
                            clear hlm hmg
                            go_wp2_with fail
                            go_roundw
                            case measure => simp only [intOf]; omega
                            case rel => exact ⟨true, k + 1, l2.set m true, rfl, by go_num, by omega, HBA.out.setCell HSB.out _, HBLA.out.set m true, HSK2.out.mark (.step (HSK2.out.rch i HLG2.out) HMI.out (List.mem_of_getElem? HSG.out)), (by have := HUS.out; have := HU2.out; omega), (fun _ => by have := HUS.out; have := HU2.out; omega), set_keeps HLG2.out, fun h => by cases h⟩
                        · have h7b : (x0 == 7) = false := by rw [beq_eq_false_iff_ne]; exact h7
                          have HX7 := Lib.hid h7
                          clear h7
                          go_upto_region 23 with fail
                          generalize wr.alloc (.cells #[.int .i64 x0, .int .i64 x1] 35) = wa at *
                          clear c2 o1 s0 s1
                          obtain ⟨p0, p1, _⟩ := row2 HNA.out
                          go_wp2_with fail
                          go_roundw
                          case measure => simp only [intOf]; omega
                          case rel => exact ⟨mo2, k + 1, l2, rfl, by go_num, by omega, HBA.out, HBLA.out, HSK2.out, HU2.out, HUT2.out, HLG2.out, fun hmo => ⟨(HCL2.out hmo).1, fun t n ht hs => by
                            rcases Nat.lt_or_ge t k with h | h
                            · exact (HCL2.out hmo).2 t n h hs
                            · obtain rfl : t = k := by omega
                              rw [HSG.out] at hs
                              exact absurd (congrArg Prod.fst (Option.some.inj hs)) HX7.out⟩⟩
                      · have hkg : ¬ ((k : Nat) : Int) < ((sl.length : Nat) : Int) := by omega
                        obtain rfl : k = sl.length := by omega
                        go_wp2_with fail
                        go_roundw
                        case measure => simp only [intOf]; omega
                        case rel => exact ⟨mo2, i + 1, l2, rfl, by go_num, by omega, HBR2.out, HBL2.out, HSK2.out, HU2.out, HUT2.out, fun hmo m hm => by
                          rcases Nat.lt_or_ge m i with h | h
                          · exact (HCL2.out hmo).1 m h
                          · obtain rfl : m = i := by omega
                            intro _ o ho n hn
                            rw [HMI.out] at ho
                            obtain rfl := Option.some.inj ho
                            obtain ⟨t, ht, e⟩ := List.getElem_of_mem hn
                            exact (HCL2.out hmo).2 t n ht (by rw [List.getElem?_eq_getElem ht, e])⟩
                · have hge : ¬ ((i : Nat) : Int) < ((ms.length : Nat) : Int) := by omega
                  obtain rfl : i = ms.length := by omega
                  go_wp2_with fail
                  go_roundw
                  case measure =>
                    have h1 := HBL.out.ub
                    have h2 := HU0.out
                    have h3 := HU.out
                    have h4 := HUT.out
                    rw [h1, h2]
                    cases mo with
                    | true => have := h4 rfl; simp only [isT]; omega
                    | false => simp only [isT]; omega
                  case rel => exact ⟨mo, l, rfl, HBR.out, HBL.out, HSK.out, fun hmo m h1 => by
                    rcases Nat.lt_or_ge m ms.length with h | h
                    · exact HCL.out hmo m h h1
                    · rw [List.getElem?_eq_none (by rw [HSK.out.len, HOL.out]; exact h)] at h1
                      cases h1⟩
            | false =>
              have HCL1 := Lib.hid (HCL0.out rfl)
              clear HCL0
              have HKD : Hid (∀ i, i < ms.length → l0[i]? = some (K i)) := Lib.hid fun i hi => HKI.out l0 HSK0.out HCL1.out i (by rw [HOL.out]; exact hi)
              clear HSK0 HCL1 HKI
              have c2 := HBX.out wr HBR0.out
              go_upto_region 26 with fail
              go_wp2_with (at_make; go_loud (refine wpList_make_full _ rfl _ _ 48 rfl w.heap.size 3 ii (.int .i64 0) 1 Try.underlying48 HII.out.1 HII.out.2.1 HII.out.2.2.1 _ _ _ _ ms.length rfl rfl (by omega) (by omega) (by rw [HII.out.2.2.2]; omega) (by unfold maxLen; omega) HBR0.out.size ?_); go_loud (intro w2 hown2 hgrow2))
              have HLF : Hid (LfI w w2 sb wr.heap.size (wr.heap.size + 1) l0 (plN K ms.length 0) (.slice none 0 0) 0 []) := Lib.hid (by
                have hb2 : Below wr.heap.size wr w2 := (Below.refl _ _).grown hgrow2 (Nat.le_refl _) (fun q hq => by cases hq)
                refine ⟨HBR0.out.trans (hb2.mono HBR0.out.size), HBL0.out.below hb2, by rw [plN_zero]; exact made_ints hown2, World.ownsRow_nil _ _ _ _, HSB.out, HBL0.out.lt, Nat.lt_succ_self _, ?_⟩
                exact (hown2.lt wr.heap.size rfl).2)
              clear hown2 hgrow2 c2 HBR0 HBL0
              generalize wr.heap.size = pb at *
              go_loopw [14, 15] (fun c v wz => ∃ (i : Nat), i ≤ ms.length ∧ v = .int .i64 (i : Nat) ∧ LfI w wz sb pb (pb + 1) l0 (plN K ms.length i) c (plc K i) (roLs (kpt K id ms i))) (fun _ v _ => ms.length - (intOf v).toNat)
              case atStart => exact ⟨0, Nat.zero_le _, rfl, HLF.out⟩
              case round =>
                obtain ⟨i, hi, rfl, hlf⟩ := hrel
                have HLI := Lib.hid hlf
                obtain ⟨ao, ac, rfl⟩ := own_dslice hlf.row
                have c2 := HBX.out wr hlf.bel
                clear hlf HLF
                by_cases hlt : i < ms.length
                · have hii : ((i : Nat) : Int) < ((ms.length : Nat) : Int) := by omega
                  have hil : i < l0.length := (List.getElem?_eq_some_iff.1 (HKD.out i hlt)).1
                  have d0 := HLI.out.br.cell hil
                  have hle : l0[i]'hil = K i := (List.getElem?_eq_some_iff.1 (HKD.out i hlt)).2
                  rw [hle] at d0
                  clear hle
                  have hpi := plc_le K i
                  have HPS := Lib.hid (plc_succ K i)
                  have HKS := Lib.hid (kpt_succ (K := K) (f := id) (l := ms) hlt)
                  cases hKi : K i with
                  | false =>
                    rw [hKi] at d0
                    have HKI := Lib.hid hKi
                    clear hKi
                    go_wp2_with fail
                    go_roundw
                    case measure => simp only [intOf]; omega
                    case rel =>
                      refine ⟨i + 1, by omega, by go_num, ?_⟩
                      rw [plN_no HKI.out, HPS.out, HKS.out, HKI.out]
                      simpa using HLI.out
                  | true =>
                    rw [hKi] at d0
                    have HKI := Lib.hid hKi
                    clear hKi
                    have hpf := HLI.out.pl.frozen i
                    have hpl := HLI.out.pl.lt
                    have hpc := HLI.out.pl.cell (j := i) (by rw [plN_len]; exact hlt)
                    have HLP := Lib.hid (HLI.out.put i ((plc K i : Nat) : Int))
                    rw [← plN_yes HKI.out] at HLP
                    obtain ⟨so, sc, hsv⟩ := own_dslice (HM.out.srow i hlt)
                    obtain ⟨pk, pt, pn, pa, hro⟩ := roL_shape hsv
                    have hg := roLs_get ms i hlt
                    rw [hro] at hg
                    obtain ⟨ob, hoo, hcell⟩ : ∃ ob, oo = some ⟨ob, 0, none⟩ ∧ ∀ W, Below w.heap.size w W → ∀ j u, (roLs ms)[j]? = some u → W.cell? ⟨ob, j, none⟩ = some u := by
                      rcases HM.out.orow.2 with ⟨e, h0⟩ | ⟨b, cap, cur, e, _⟩
                      · omega
                      · injection e with e1 _ _
                        refine ⟨b, e1, fun W hW j u hu => ?_⟩
                        have h1 := (HM.out.below hW).orow.cells (g := b) (by rw [e1]; rfl) j u hu
                        rwa [Addr.add_mid, Nat.zero_add] at h1
                    subst hoo
                    have HG : Hid (∀ W, Below w.heap.size w W → W.cell? ⟨ob, i * 10, none⟩ = some (.int .i64 (ms[i]'hlt).o.k) ∧ W.cell? ⟨ob, i * 10 + 1, none⟩ = some (.slice so (ms[i]'hlt).o.s.length sc) ∧ W.cell? ⟨ob, i * 10 + 2, none⟩ = some (.int .i64 pk) ∧ W.cell? ⟨ob, i * 10 + 3, none⟩ = some (.string pt) ∧ W.cell? ⟨ob, i * 10 + 4, none⟩ = some (.bool pn) ∧ W.cell? ⟨ob, i * 10 + 5, none⟩ = some (.slice none 0 0) ∧ W.cell? ⟨ob, i * 10 + 6, none⟩ = some (.slice none 0 0) ∧ W.cell? ⟨ob, i * 10 + 7, none⟩ = some (.int .i64 pa) ∧ W.cell? ⟨ob, i * 10 + 8, none⟩ = some (.slice none 0 0) ∧ W.cell? ⟨ob, i * 10 + 9, none⟩ = some (.slice none 0 0)) := Lib.hid fun W hW =>
                      ⟨hcell W hW _ _ ((hg 0 (by omega)).trans rfl), hcell W hW _ _ ((hg 1 (by omega)).trans rfl), hcell W hW _ _ ((hg 2 (by omega)).trans rfl), hcell W hW _ _ ((hg 3 (by omega)).trans rfl), hcell W hW _ _ ((hg 4 (by omega)).trans rfl), hcell W hW _ _ ((hg 5 (by omega)).trans rfl), hcell W hW _ _ ((hg 6 (by omega)).trans rfl), hcell W hW _ _ ((hg 7 (by omega)).trans rfl), hcell W hW _ _ ((hg 8 (by omega)).trans rfl), hcell W hW _ _ ((hg 9 (by omega)).trans rfl)⟩
                    have HRO := Lib.hid hro
                    obtain ⟨kk, hkk⟩ : ∃ k, k = (ms[i]'hlt).o.k := ⟨_, rfl⟩
                    obtain ⟨sn, hsn⟩ : ∃ k, k = (ms[i]'hlt).o.s.length := ⟨_, rfl⟩
                    rw [← hkk, ← hsn] at HG HRO
                    clear hro hg hcell hkk hsn hsv
                    go_upto_region 33 with fail
                    generalize wr.setCell ⟨pb, i, none⟩ (.int .i64 ((plc K i : Nat) : Int)) = w3 at *
                    clear c2 d0 hpf hpl hpc
                    have c2 := HBX.out w3 HLP.out.bel
                    obtain ⟨k0, k1, k2, k3, k4, k5, k6, k7, k8, k9⟩ := HG.out w3 HLP.out.bel
                    obtain ⟨i1, hi1, hy0, hy1, hy2⟩ := info_parts infoRObj
                    have HLA := Lib.hid (HLP.out.below (below1 w3 (.cells #[.int .i64 kk, .slice so sn sc, .int .i64 pk, .string pt, .bool pn, .slice none 0 0, .slice none 0 0, .int .i64 pa, .slice none 0 0, .slice none 0 0] 83)))
                    have HRA := Lib.hid (row1o w3 [.int .i64 kk, .slice so sn sc, .int .i64 pk, .string pt, .bool pn, .slice none 0 0, .slice none 0 0, .int .i64 pa, .slice none 0 0, .slice none 0 0] 83)
                    go_wp2_with (at_builtin; go_loud (refine wpList_append_row _ rfl _ _ 29 rfl (pb + 1) 83 i1 _ 10 168 Try.underlying29 hi1 hy0 hy1 hy2 rfl (by decide) (.slice ao (plc K i) ac) (plc K i) (roLs (kpt K id ms i)) rfl HLA.out.row _ 1 [.int .i64 kk, .slice so sn sc, .int .i64 pk, .string pt, .bool pn, .slice none 0 0, .slice none 0 0, .int .i64 pa, .slice none 0 0, .slice none 0 0] rfl HRA.out (by intro u hu; simp only [List.mem_cons, List.not_mem_nil, or_false] at hu; rcases hu with rfl | rfl | rfl | rfl | rfl | rfl | rfl | rfl | rfl | rfl <;> rfl) (by unfold maxLen; omega) (by omega) HLA.out.lo.2.2.2 ?_); go_loud (intro v' w7 hown7 hgrow7 hmv7; have HO7 := Lib.hid hown7; have HG7 := Lib.hid hgrow7; clear hown7 hgrow7 hmv7 hi1 hy0 hy1 hy2))
                    go_roundw
                    case measure => simp only [intOf]; omega
                    case rel =>
                      refine ⟨i + 1, by omega, by go_num, ?_⟩
                      have h1 := HLA.out.grow HO7.out HG7.out
                      rw [← HRO.out, ← roLs_one, ← roLs_append] at h1
                      rw [HPS.out, HKS.out, HKI.out, if_pos rfl, if_pos rfl]
                      exact h1
                · have hge : ¬ ((i : Nat) : Int) < ((ms.length : Nat) : Int) := by omega
                  obtain rfl : i = ms.length := by omega
                  have HLP0 := Lib.hid (HM.out.lpi (Q := Q) (K := K) HLI.out.bel HLI.out.row HLI.out.pl)
                  have hpbw : w.heap.size ≤ pb := by have := HLI.out.lo; omega
                  clear HLI HKD hlt hi HSB
                  go_wp2_with fail
                  clear c2 hge
                  go_loopw [16] (fun v wz => ∃ (i : Nat), i ≤ plc K ms.length ∧ v = .int .i64 (i : Nat) ∧ LpI w wz Q ms K (pb + 1) (.slice ao (plc K ms.length) ac) pb (slP K ms i)) (fun v _ => plc K ms.length - (intOf v).toNat)
                  case atStart => exact ⟨0, Nat.zero_le _, rfl, HLP0.out⟩
                  case round =>
                    obtain ⟨i, hi, rfl, hlp⟩ := hrel
                    have HLP := Lib.hid hlp
                    clear hlp HLP0
                    by_cases hlt : i < plc K ms.length
                    · have hii : ((i : Nat) : Int) < ((plc K ms.length : Nat) : Int) := by omega
                      obtain ⟨j, hj, hKj, hpj⟩ := kpt_inv hlt
                      subst hpj
                      have hplj := plc_le K j
                      obtain ⟨so, sc, hsv⟩ := own_dslice (HM.out.srow j hj)
                      obtain ⟨lb, hao⟩ : ∃ lb, ao = some ⟨lb, 0, none⟩ := by
                        rcases HLP.out.row.2 with ⟨_, h0⟩ | ⟨b, cap, cur, e, _⟩
                        · omega
                        · injection e with e1 _ _
                          exact ⟨b, e1⟩
                      subst hao
                      have HLB : Hid (∀ W σ, LpI w W Q ms K (pb + 1) (.slice (some ⟨lb, 0, none⟩) (plc K ms.length) ac) pb σ → W.cell? ⟨lb, plc K j * 10 + 1, none⟩ = some (.slice so (ms[j]'hj).o.s.length sc)) := Lib.hid fun W σ h => by
                        have hkl : plc K j < (kpt K id ms ms.length).length := by rw [kpt_len (Nat.le_refl _)]; exact hlt
                        have h1 := roLs_get (kpt K id ms ms.length) (plc K j) hkl 1 (by omega)
                        have h2 := kpt_get (K := K) (f := id) (Nat.le_refl _) hj hKj
                        rw [List.getElem?_eq_getElem hkl] at h2
                        rw [Option.some.inj h2] at h1
                        have h3 := h.row.cells (g := lb) rfl _ _ (h1.trans (show _ = some (.slice so (ms[j]'hj).o.s.length sc) by simp [roL, hsv]))
                        rwa [Addr.add_mid, Nat.zero_add] at h3
                      have HSLT : Hid (∀ W σ, LpI w W Q ms K (pb + 1) (.slice (some ⟨lb, 0, none⟩) (plc K ms.length) ac) pb σ → ∀ k (hk : k < (σ j).length), (σ j).length = (ms[j]'hj).o.s.length → ∃ b2, so = some ⟨b2, 0, none⟩ ∧ W.cell? ⟨b2, k * 2, none⟩ = some (.int .i64 ((σ j)[k]'hk).1) ∧ W.cell? ⟨b2, k * 2 + 1, none⟩ = some (.int .i64 ((σ j)[k]'hk).2) ∧ W.frozen? ⟨b2, k * 2 + 1, none⟩ = false) := Lib.hid fun W σ h k hk hkl => by
                        have h1 := h.srow j hj
                        rw [hsv] at h1
                        rcases h1.2 with ⟨e, h0⟩ | ⟨b, cap, cur, e, _, hc, _⟩
                        · omega
                        · injection e with e1 _ _
                          subst e1
                          obtain ⟨g0, g1⟩ := vcs_get (σ j) k hk
                          have h2 := h1.cells (g := b) rfl _ _ g0
                          have h3 := h1.cells (g := b) rfl _ _ g1
                          rw [Addr.add_mid, Nat.zero_add] at h2 h3
                          exact ⟨b, rfl, h2, h3, frozen_heap hc _⟩
                      have HMI : Hid (s.os[j]? = some (ms[j]'hj).o) := Lib.hid (by rw [HM.out.eqs]; simp [hj])
                      have HSET : Hid (∀ W σ b2, so = some ⟨b2, 0, none⟩ → LpI w W Q ms K (pb + 1) (.slice (some ⟨lb, 0, none⟩) (plc K ms.length) ac) pb σ → ∀ k (hk : k < (σ j).length), (σ j).length = (ms[j]'hj).o.s.length → ∀ (t n : Int), ((σ j)[k]'hk).1 = t → LpI w (W.setCell ⟨b2, k * 2 + 1, none⟩ (.int .i64 n)) Q ms K (pb + 1) (.slice (some ⟨lb, 0, none⟩) (plc K ms.length) ac) pb (fun i => if i = j then (σ j).set k (t, n) else σ i)) := Lib.hid fun W σ b2 hb2 h k hk hkl t n ht => h.set HM.out (by omega) hpbw hj (by rw [hsv, hb2]) hk hkl ht
                      have HSND : Hid (∀ v ∈ (ms[j]'hj).o.s, sdV s.os.length s.ns.length v = true) := Lib.hid fun v hv => HM.out.ok.snd _ (List.mem_of_getElem? HMI.out) v hv
                      have HCLO : Hid (∀ m : Nat, ((7 : Int), (m : Int)) ∈ (ms[j]'hj).o.s → K m = true) := Lib.hid fun m hm => HKC.out j m _ hKj HMI.out hm
                      have hsln : (ms[j]'hj).o.s.length ≤ 1048576 := by
                        have h1 := le_sum (f := Ob.c) s.os _ (List.mem_of_getElem? HMI.out)
                        have h2 := HM.out.ok.cpos _ (List.mem_of_getElem? HMI.out)
                        have h3 := HM.out.ok.UL
                        have h4 := HM.out.ok.LM
                        have h5 := HM.out.ok.sum
                        omega
                      have HAT := Lib.hid (slP_at (K := K) hj)
                      have HSU := Lib.hid (slP_succ (K := K) hj hKj)
                      have HKJ := Lib.hid hKj
                      clear hsv hKj HMI
                      generalize (ms[j]'hj).o.s = sl at *
                      go_wp2_with fail
                      go_loopw [17] (fun v wz => ∃ (k : Nat), k ≤ sl.length ∧ v = .int .i64 (k : Nat) ∧ LpI w wz Q ms K (pb + 1) (.slice (some ⟨lb, 0, none⟩) (plc K ms.length) ac) pb (fun t => if t = j then upd (mvV K) sl k else slP K ms (plc K j) t)) (fun v _ => sl.length - (intOf v).toNat)
                      case atStart => exact ⟨0, Nat.zero_le _, rfl, HLP.out.ext fun t ht => by
                        by_cases e : t = j
                        · subst e; simp only [if_true]; rw [upd_zero]; exact HAT.out
                        · simp only [if_neg e]⟩
                      case round =>
                        obtain ⟨k, hk, rfl, hlk⟩ := hrel
                        have HLK := Lib.hid hlk
                        have o1 := HLB.out wr _ hlk
                        clear hlk HLP
                        by_cases hkl : k < sl.length
                        · have hki : ((k : Nat) : Int) < ((sl.length : Nat) : Int) := by omega
                          have hul : (upd (mvV K) sl k).length = sl.length := upd_len k
                          have hs := HSLT.out wr _ HLK.out k (by simp only [if_true]; rw [hul]; exact hkl) (by simp only [if_true]; exact hul)
                          simp only [if_true] at hs
                          rw [upd_at hkl] at hs
                          obtain ⟨b2, rfl, s0, s1, sf⟩ := hs
                          have HSET2 := Lib.hid (fun t n => HSET.out wr _ b2 rfl HLK.out k (by simp only [if_true]; rw [hul]; exact hkl) (by simp only [if_true]; exact hul) t n)
                          simp only [if_true] at HSET2
                          rw [upd_at hkl] at HSET2
                          have HUS := Lib.hid (upd_succ (f := mvV K) hkl)
                          have HUA := Lib.hid (upd_at (f := mvV K) hkl)
                          have HMEM := Lib.hid (List.getElem_mem hkl)
                          have HSX := Lib.hid (HSND.out _ (List.getElem_mem hkl))
                          clear hul
                          generalize sl[k]'hkl = x at *
                          obtain ⟨x0, x1⟩ := x
                          simp only at s0 s1
                          by_cases h7 : x0 = 7
                          · subst h7
                            obtain ⟨m, hxm, hmn⟩ := sd_in HSX.out rfl
                            simp only [Prod.mk.injEq, true_and] at hxm
                            subst hxm
                            have hml2 : m < ms.length := by rw [← HOL.out]; exact hmn
                            have hmi : ((m : Nat) : Int) < ((ms.length : Nat) : Int) := by omega
                            have hKm := HCLO.out m HMEM.out
                            have d1 := HLK.out.pl.cell (j := m) (by rw [plN_len]; exact hml2)
                            rw [plN_at hml2 hKm] at d1
                            have HMV : Hid (mvV K (7, ((m : Nat) : Int)) = (7, ((plc K m : Nat) : Int))) := Lib.hid (by unfold mvV; simp)
                            clear hKm hmn
                            have HSET3 := Lib.hid (HSET2.out 7 ((plc K m : Nat) : Int) rfl)
                            clear HSET2
                            go_upto_region 41 with fail
                            go_region
                            go_wp2_with fail
                            go_roundw
                            case measure => simp only [intOf]; omega
                            case rel =>
                              refine ⟨k + 1, by omega, by go_num, LpI.ext (σ := fun i => if i = j then (upd (mvV K) sl k).set k (7, ((plc K m : Nat) : Int)) else if i = j then upd (mvV K) sl k else slP K ms (plc K j) i) ?_ fun t _ => ?_⟩
                              · first | exact HSET3.out | exact HSET3.out.drew | exact HSET3.out.below (below_drewN (Below.refl _ _) _)
                              · by_cases e : t = j
                                · subst e
                                  simp only [if_true]
                                  rw [HUS.out, HMV.out]
                                · simp only [if_neg e]
                          · have h7b : (x0 == 7) = false := by rw [beq_eq_false_iff_ne]; exact h7
                            have HMV : Hid (mvV K (x0, x1) = (x0, x1)) := Lib.hid (by unfold mvV; rw [if_neg h7])
                            clear h7
                            go_wp2_with fail
                            go_roundw
                            case measure => simp only [intOf]; omega
                            case rel =>
                              refine ⟨k + 1, by omega, by go_num, HLK.out.ext fun t _ => ?_⟩
                              by_cases e : t = j
                              · subst e
                                simp only [if_true]
                                rw [HUS.out, HMV.out, ← HUA.out, List.set_getElem_self]
                              · simp only [if_neg e]
                        · have hkg : ¬ ((k : Nat) : Int) < ((sl.length : Nat) : Int) := by omega
                          obtain rfl : k = sl.length := by omega
                          go_wp2_with fail
                          go_roundw
                          case measure => simp only [intOf]; omega
                          case rel =>
                            refine ⟨plc K j + 1, by omega, by go_num, HLK.out.ext fun t ht => ?_⟩
                            rw [HSU.out t ht, upd_full]
                    · have hge : ¬ ((i : Nat) : Int) < ((plc K ms.length : Nat) : Int) := by omega
                      obtain rfl : i = plc K ms.length := by omega
                      have hQg := HM.out.gQ
                      have hbx0 := (HLP.out.kp.2 g HGL.out (by show Q g < 6; omega)).trans HM.out.box
                      obtain ⟨⟨b0, b1, b2, b3⟩, bf⟩ : (wr.cell? ⟨g, 0, none⟩ = some (.int .i64 (s.L : Nat)) ∧ wr.cell? ⟨g, 1, none⟩ = some (.int .i64 (s.U : Nat)) ∧ wr.cell? ⟨g, 2, none⟩ = some (.slice oo ms.length oc) ∧ wr.cell? ⟨g, 3, none⟩ = some nv) ∧ wr.frozen? ⟨g, 2, none⟩ = false := ⟨⟨cell_heap hbx0 0, cell_heap hbx0 1, cell_heap hbx0 2, cell_heap hbx0 3⟩, frozen_heap hbx0 2⟩
                      have hlvg : ∀ b, (Value.slice ao (plc K ms.length) ac).ownBlock = some b → pb + 1 ≤ b := fun b hb => (HLP.out.row.lt b hb).1
                      have HGN := HGL.out
                      have hK1 : Keeps (fun b => b ≠ g) wr (wr.setCell ⟨g, 2, none⟩ (.slice ao (plc K ms.length) ac)) := (Keeps.refl _ _).set (fun h => h rfl) _
                      have HX1 : Hid ((wr.setCell ⟨g, 2, none⟩ (.slice ao (plc K ms.length) ac)).heap[g]? = some (.cells #[.int .i64 (s.L : Nat), .int .i64 (s.U : Nat), .slice ao (plc K ms.length) ac, nv] 32 (0, 0))) := Lib.hid ((rowSet hbx0 2 _).trans (by simp))
                      have HK1 : Hid (Keeps (fun b => Q b < 6 ∧ b ≠ g) w (wr.setCell ⟨g, 2, none⟩ (.slice ao (plc K ms.length) ac))) := Lib.hid ((HLP.out.kp.mono fun _ _ h => h.1).trans (hK1.mono fun _ _ h => h.2))
                      have HF1 : Hid (Fr Q w (wr.setCell ⟨g, 2, none⟩ (.slice ao (plc K ms.length) ac))) := Lib.hid (HLP.out.fr.set (p := ⟨g, 2, none⟩) (.inr (by show Q g ≠ 0; omega)) _)
                      have HR1 : Hid ((wr.setCell ⟨g, 2, none⟩ (.slice ao (plc K ms.length) ac)).ownsRow (pb + 1) 83 10 (.slice ao (plc K ms.length) ac) (plc K ms.length) (roLs (kpt K id ms ms.length))) := Lib.hid (ownsRow_keep HLP.out.row hK1 fun b hb e => by have := hlvg b hb; omega)
                      have HP1 : Hid (IRow (wr.setCell ⟨g, 2, none⟩ (.slice ao (plc K ms.length) ac)) pb (plN K ms.length ms.length)) := Lib.hid (HLP.out.pl.keep hK1 (show pb ≠ g by omega))
                      have HS1 : Hid (∀ (i : Nat) (hi : i < ms.length), K i = true → (wr.setCell ⟨g, 2, none⟩ (.slice ao (plc K ms.length) ac)).ownsRow 0 35 2 (ms[i]'hi).sv (ms[i]'hi).o.s.length (vcs ((ms[i]'hi).o.s.map (mvV K)))) := Lib.hid fun i hi hKi => by
                        have h1 := HLP.out.srow i hi
                        rw [slP_full hi hKi] at h1
                        exact ownsRow_keep h1 hK1 fun b hb e => by have := HM.out.sQ i hi b hb; rw [e] at this; omega
                      clear hbx0 hK1 HLP
                      go_upto_region 43 with fail
                      clear b0 b1 b2 b3 bf
                      generalize wr.setCell ⟨g, 2, none⟩ (.slice ao (plc K ms.length) ac) = wA at *
                      have hkl : (kpt K (RO.mv K) ms ms.length).length = plc K ms.length := kpt_len (Nat.le_refl _)
                      have hU : ((kpt K (RO.mv K) ms ms.length).map fun m => m.o.c).sum = (s.left K).U := by
                        show _ = ((kpt K (Ob.mv K) s.os s.os.length).map Ob.c).sum
                        have h1 := kpt_map (K := K) (f := RO.mv K) (f' := Ob.mv K) RO.o (fun _ => rfl) (l := ms) ms.length (Nat.le_refl _)
                        rw [HM.out.eqs, List.length_map, ← h1, List.map_map]
                        rfl
                      have hUle : (s.left K).U ≤ 1048576 := by
                        have h1 := (HM.out.ok.left HKC.out).UL
                        have h2 : (s.left K).L ≤ 1048576 := HM.out.ok.LM
                        omega
                      have hrk2 : ∀ i (hi : i < (kpt K (RO.mv K) ms ms.length).length), RkOk ((kpt K (RO.mv K) ms ms.length)[i]'hi).o ∧ ∃ so sc, ((kpt K (RO.mv K) ms ms.length)[i]'hi).sv = .slice so ((kpt K (RO.mv K) ms ms.length)[i]'hi).o.s.length sc := by
                        intro i hi
                        obtain ⟨t, ht, _, _, e⟩ := kpt_mem (List.getElem_mem hi)
                        rw [e]
                        have h1 := HRK.out (ms[t]'ht).o (by rw [HM.out.eqs]; exact List.mem_map.2 ⟨_, List.getElem_mem ht, rfl⟩)
                        refine ⟨?_, ?_⟩
                        · unfold RkOk at h1 ⊢
                          simpa [RO.mv, Ob.mv] using h1
                        · obtain ⟨so, sc, hsv⟩ := own_dslice (HM.out.srow t ht)
                          exact ⟨so, sc, by show (ms[t]'ht).sv = _; rw [hsv]; simp [RO.mv, Ob.mv]⟩
                      have hcnt := rcount_any g (s.L : Nat) (s.U : Nat) (.slice ao (plc K ms.length) ac) nv (kpt K (RO.mv K) ms ms.length) wA HX1.out (by rw [hkl, kpt_ro _ (Nat.le_refl _)]; exact RowV.of_own HR1.out) hrk2 (by rw [hU]; exact hUle) (by rw [hkl]; have := plc_le K ms.length; omega)
                      rw [hU] at hcnt
                      have HCN := Lib.hid hcnt
                      have HUL := Lib.hid hUle
                      clear hcnt hUle hrk2 hU hkl
                      generalize hUe : (s.left K).U = U2 at *
                      have HUE := Lib.hid hUe
                      clear hUe
                      go_wp2_with fail
                      refine HCN.out.mono ?_
                      rintro e wB ⟨rfl, hbB⟩
                      have hXB := (hbB.block g (Array.getElem?_eq_some_iff.1 HX1.out).1).trans HX1.out
                      have HKB := Lib.hid (HK1.out.trans (Keeps.of_below hbB))
                      have HFB := Lib.hid (HF1.out.belowThen hbB)
                      have HRB := Lib.hid (ownsRow_keep HR1.out (Keeps.of_below (P := fun _ => True) hbB) fun _ _ => trivial)
                      have HPB := Lib.hid (HP1.out.below hbB)
                      have HSB : Hid (∀ (i : Nat) (hi : i < ms.length), K i = true → wB.ownsRow 0 35 2 (ms[i]'hi).sv (ms[i]'hi).o.s.length (vcs ((ms[i]'hi).o.s.map (mvV K)))) := Lib.hid fun i hi hKi => ownsRow_keep (HS1.out i hi hKi) (Keeps.of_below (P := fun _ => True) hbB) fun _ _ => trivial
                      clear hbB HX1 HK1 HF1 HR1 HP1 HS1 HCN
                      clear wA
                      have hK3 : Keeps (fun b => b ≠ g) wB (wB.setCell ⟨g, 1, none⟩ (.int .i64 (U2 : Nat))) := (Keeps.refl _ _).set (fun h => h rfl) _
                      have hX3 : (wB.setCell ⟨g, 1, none⟩ (.int .i64 (U2 : Nat))).heap[g]? = some (.cells #[.int .i64 (s.L : Nat), .int .i64 (U2 : Nat), .slice ao (plc K ms.length) ac, nv] 32 (0, 0)) := (rowSet hXB 1 _).trans (by simp)
                      have HK3 : Hid (Keeps (fun b => Q b < 6 ∧ b ≠ g) w (wB.setCell ⟨g, 1, none⟩ (.int .i64 (U2 : Nat)))) := Lib.hid (HKB.out.trans (hK3.mono fun _ _ h => h.2))
                      have HF3 : Hid (Fr Q w (wB.setCell ⟨g, 1, none⟩ (.int .i64 (U2 : Nat)))) := Lib.hid (HFB.out.set (p := ⟨g, 1, none⟩) (.inr (by show Q g ≠ 0; omega)) _)
                      have hR3 := ownsRow_keep HRB.out hK3 fun b hb e => by have := hlvg b hb; omega
                      have HP3 : Hid (IRow (wB.setCell ⟨g, 1, none⟩ (.int .i64 (U2 : Nat))) pb (plN K ms.length ms.length)) := Lib.hid (HPB.out.keep hK3 (show pb ≠ g by omega))
                      have HLV : Hid (RsM (wB.setCell ⟨g, 1, none⟩ (.int .i64 (U2 : Nat))) g (Qleft K Q (.slice ao (plc K ms.length) ac)) (s.left K) (kpt K (RO.mv K) ms ms.length) (.slice ao (plc K ms.length) ac) nv) := Lib.hid (HM.out.leave HKC.out (by omega) (by rw [hX3, HUE.out]) hR3 (fun i hi hKi => ownsRow_keep (HSB.out i hi hKi) hK3 fun b hb e => by have := HM.out.sQ i hi b hb; rw [e] at this; omega) HK3.out)
                      obtain ⟨c1, cf⟩ : wB.cell? ⟨g, 1, none⟩ = some (.int .i64 (s.U : Nat)) ∧ wB.frozen? ⟨g, 1, none⟩ = false := ⟨cell_heap hXB 1, frozen_heap hXB 1⟩
                      clear hK3 hX3 hR3 hXB HKB HFB HRB HPB HSB HUE
                      go_upto_region 44 with fail
                      clear c1 cf
                      have HOLDLV : Hid (∀ b, b < w.heap.size → (Value.slice ao (plc K ms.length) ac).ownBlock ≠ some b) := Lib.hid fun b hb e => by have := hlvg b e; omega
                      clear hlvg
                      generalize wB.setCell ⟨g, 1, none⟩ (.int .i64 (U2 : Nat)) = w3 at *
                      have HRT := Lib.hid (HR.out.move HRQ.out (HF3.out.keeps.mono fun _ _ h => h))
                      obtain ⟨i1, hi1, hy0, hy1, hy2⟩ := info_parts infoVal
                      have HRA := Lib.hid (HRT.out.below (below1 w3 (.cells #[] 35)))
                      have HR0 : Hid ((w3.alloc (.cells #[] 35)).ownsRow w3.heap.size 35 2 (.slice (some ⟨w3.heap.size, 0, none⟩) 0 0) 0 []) := Lib.hid ⟨rfl, .inr ⟨_, _, _, rfl, Nat.le_refl _, heap_alloc_new w3 _, Nat.le_refl _, Nat.zero_le _, rfl, rfl⟩⟩
                      go_wp2_with (at_builtin; go_loud (refine wpList_append_row _ rfl _ _ 33 rfl w3.heap.size 35 i1 _ 2 16 Try.underlying33 hi1 hy0 hy1 hy2 rfl (by decide) (.slice (some ⟨w3.heap.size, 0, none⟩) 0 0) 0 [] rfl HR0.out _ rs.length (vcs rs) rfl HRA.out (vcs_one _) (by unfold maxLen; omega) (by omega) (by simp) ?_); go_loud (intro v' w7 hown7 hgrow7 hmv7; rw [Nat.zero_add, List.nil_append] at hown7; obtain ⟨vo, vc, hv7⟩ := own_dslice hown7; subst hv7; have HO7 := Lib.hid hown7; have HG7 := Lib.hid hgrow7; clear hown7 hgrow7 hmv7 hi1 hy0 hy1 hy2))
                      have HB7 : Hid (Below w3.heap.size w3 w7) := Lib.hid ((below1 w3 (.cells #[] 35)).grown HG7.out (by simp) (fun q hq => by cases hq; exact Nat.le_refl _))
                      clear HG7 HRA HR0 HRT
                      go_loopw [19] (fun v wz => ∃ (k : Nat), k ≤ rs.length ∧ v = .int .i64 (k : Nat) ∧ wz.ownsRow w3.heap.size 35 2 (.slice vo rs.length vc) rs.length (vcs (upd (mvV K) rs k)) ∧ Below w3.heap.size w3 wz) (fun v _ => rs.length - (intOf v).toNat)
                      case atStart => exact ⟨0, Nat.zero_le _, rfl, by rw [upd_zero]; exact HO7.out, HB7.out⟩
                      case round =>
                        obtain ⟨k, hk, rfl, hown, hbz⟩ := hrel
                        have HOZ := Lib.hid hown
                        have HBZ := Lib.hid hbz
                        clear hown hbz HO7 HB7
                        by_cases hkl : k < rs.length
                        · have hki : ((k : Nat) : Int) < ((rs.length : Nat) : Int) := by omega
                          obtain ⟨b2, hvo, s0, s1, sf, hb2⟩ : ∃ b2, vo = some ⟨b2, 0, none⟩ ∧ wr.cell? ⟨b2, k * 2, none⟩ = some (.int .i64 (rs[k]'hkl).1) ∧ wr.cell? ⟨b2, k * 2 + 1, none⟩ = some (.int .i64 (rs[k]'hkl).2) ∧ wr.frozen? ⟨b2, k * 2 + 1, none⟩ = false ∧ w3.heap.size ≤ b2 := by
                            have h1 := HOZ.out
                            rcases h1.2 with ⟨e, h0⟩ | ⟨b, cap, cur, e, hb, hc, _⟩
                            · omega
                            · injection e with e1 _ _
                              subst e1
                              obtain ⟨g0, g1⟩ := vcs_get (upd (mvV K) rs k) k (by rw [upd_len]; exact hkl)
                              have h2 := h1.cells (g := b) rfl _ _ g0
                              have h3 := h1.cells (g := b) rfl _ _ g1
                              rw [Addr.add_mid, Nat.zero_add] at h2 h3
                              rw [upd_at hkl] at h2 h3
                              exact ⟨b, rfl, h2, h3, frozen_heap hc _, hb⟩
                          subst hvo
                          have HUS := Lib.hid (upd_succ (f := mvV K) hkl)
                          have HUA := Lib.hid (upd_at (f := mvV K) hkl)
                          have HMEM := Lib.hid (List.getElem_mem hkl)
                          have HSX := Lib.hid (List.all_eq_true.1 HALL.out _ (List.getElem_mem hkl))
                          have HOS := Lib.hid (fun u => ownsRow_set (j := k * 2 + 1) HOZ.out (by rw [vcs_len, upd_len]; omega) u)
                          have HVS : Hid (∀ t n, (rs[k]'hkl).1 = t → vcs ((upd (mvV K) rs k).set k (t, n)) = (vcs (upd (mvV K) rs k)).set (k * 2 + 1) (.int .i64 n)) := Lib.hid fun t n ht => vcs_set1 (by rw [upd_len]; exact hkl) (by rw [upd_at hkl]; exact ht)
                          generalize rs[k]'hkl = x at *
                          obtain ⟨x0, x1⟩ := x
                          simp only at s0 s1
                          by_cases h7 : x0 = 7
                          · subst h7
                            obtain ⟨m, hxm, hmn⟩ := sd_in HSX.out rfl
                            simp only [Prod.mk.injEq, true_and] at hxm
                            subst hxm
                            have hml2 : m < ms.length := by rw [← HOL.out]; exact hmn
                            have hmi : ((m : Nat) : Int) < ((ms.length : Nat) : Int) := by omega
                            have hKm := HKR.out m HMEM.out
                            have d1 := (HP3.out.below HBZ.out).cell (j := m) (by rw [plN_len]; exact hml2)
                            rw [plN_at hml2 hKm] at d1
                            have HMV : Hid (mvV K (7, ((m : Nat) : Int)) = (7, ((plc K m : Nat) : Int))) := Lib.hid (by unfold mvV; simp)
                            have HVS2 := Lib.hid (HVS.out 7 ((plc K m : Nat) : Int) rfl)
                            have hbp : pb ≠ b2 := by have := HP3.out.lt; omega
                            clear hKm hmn HVS
                            go_wp2_with fail
                            go_roundw
                            case measure => simp only [intOf]; omega
                            case rel =>
                              refine ⟨k + 1, by omega, by go_num, ?_, HBZ.out.setCell hb2 _⟩
                              rw [HUS.out, HMV.out, HVS2.out]
                              exact HOS.out _
                          · have h7b : (x0 == 7) = false := by rw [beq_eq_false_iff_ne]; exact h7
                            have HMV : Hid (mvV K (x0, x1) = (x0, x1)) := Lib.hid (by unfold mvV; rw [if_neg h7])
                            clear h7 HVS
                            go_wp2_with fail
                            go_roundw
                            case measure => simp only [intOf]; omega
                            case rel =>
                              refine ⟨k + 1, by omega, by go_num, ?_, HBZ.out⟩
                              rw [HUS.out, HMV.out, ← HUA.out, List.set_getElem_self]
                              exact HOZ.out
                        · have hkg : ¬ ((k : Nat) : Int) < ((rs.length : Nat) : Int) := by omega
                          obtain rfl : k = rs.length := by omega
                          go_wp2_with fail
                          refine bodyPost_ret (v := .tuple #[.slice vo rs.length vc, .int .i64 0]) (by simp [results, Try.results35, go_sem]) rfl (.inr ⟨by first | exact HALL.out | exact fun a b h => List.all_eq_true.1 HALL.out _ h, _, rfl, ⟨_, ⟨_, _, _, HLV.out.below HBZ.out⟩, HF3.out.belowThen HBZ.out, fun b hb => Qleft_old (HOLDLV.out b hb)⟩, ?_⟩)
                          have h1 := RowV.of_own HOZ.out
                          rw [upd_full] at h1
                          exact h1
end Go.Proofs.Ytioidaojnbenbaa
