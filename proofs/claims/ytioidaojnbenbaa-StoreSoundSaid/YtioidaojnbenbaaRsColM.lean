/- The document's answer's list, given up: marks, places, what is left. No walk here. -/
import Derived.Test.YtioidaojnbenbaaRsCnt
import Derived.Test.YtioidaojnbenbaaStKept
namespace Go.Proofs.Ytioidaojnbenbaa
open Go.RowKit

/-- A row of bools that may be written. -/
def BRow (w : World) (b : Nat) (l : List Bool) : Prop := w.heap[b]? = some (.cells (l.map Value.bool).toArray 4 (0, 0))
theorem BRow.lt {w : World} {b : Nat} {l : List Bool} (h : BRow w b l) : b < w.heap.size := (Array.getElem?_eq_some_iff.1 h).1
theorem BRow.cell {w : World} {b : Nat} {l : List Bool} (h : BRow w b l) {j : Nat} (hj : j < l.length) : w.cell? ⟨b, j, none⟩ = some (.bool (l[j]'hj)) := by
  rw [cell_heap h j]
  simp [hj]
theorem BRow.frozen {w : World} {b : Nat} {l : List Bool} (h : BRow w b l) (j : Nat) : w.frozen? ⟨b, j, none⟩ = false := frozen_heap h j
theorem BRow.set {w : World} {b : Nat} {l : List Bool} (h : BRow w b l) (j : Nat) (x : Bool) : BRow (w.setCell ⟨b, j, none⟩ (.bool x)) b (l.set j x) := by
  have := rowSet h j (.bool x)
  unfold BRow
  rw [this]
  simp
theorem BRow.below {w w' : World} {b : Nat} {l : List Bool} (h : BRow w b l) (hb : Below w.heap.size w w') : BRow w' b l := (hb.block b h.lt).trans h
theorem BRow.keep {w w' : World} {b : Nat} {l : List Bool} (h : BRow w b l) {P : Nat → Prop} (hk : Keeps P w w') (hp : P b) : BRow w' b l := (hk.2 b h.lt hp).trans h

/-- How many are not marked. -/
def ubs (l : List Bool) : Nat := l.countP (fun x => !x)
theorem ubs_set {l : List Bool} {n : Nat} (hn : n < l.length) (h : l[n] = false) : ubs (l.set n true) + 1 = ubs l := by
  unfold ubs
  have hsplit : l = l.take n ++ l[n] :: l.drop (n + 1) := by rw [← List.drop_eq_getElem_cons hn, List.take_append_drop]
  have e1 : l.set n true = l.take n ++ true :: l.drop (n + 1) := by
    rw [List.set_eq_take_append_cons_drop, if_pos hn]
  rw [e1]
  conv => rhs; rw [hsplit]
  rw [List.countP_append, List.countP_append, List.countP_cons, List.countP_cons, h]
  simp
  omega
def isF : Value → Bool
  | .bool false => true
  | _ => false
/-- The same, read off the memory. -/
def ubW (w : World) (b : Nat) : Nat := match w.heap[b]? with
  | some (.cells cs _ _) => cs.toList.countP isF
  | _ => 0
theorem BRow.ub {w : World} {b : Nat} {l : List Bool} (h : BRow w b l) : ubW w b = ubs l := by
  unfold ubW ubs
  rw [h]
  simp only [List.countP_map]
  congr 1
  funext x
  cases x <;> rfl
def isT : Value → Nat
  | .bool true => 1
  | _ => 0

/-- All that is marked can be come to, and all roots are marked. -/
structure SkB (s : St) (rs : List (Int × Int)) (l : List Bool) : Prop where
  len : l.length = s.os.length
  rch : ∀ i : Nat, l[i]? = some true → Rch s rs i
  root : ∀ n : Nat, ((7 : Int), (n : Int)) ∈ rs → l[n]? = some true
/-- What a marked one holds is marked. -/
def Clo (s : St) (l : List Bool) (m : Nat) : Prop := l[m]? = some true → ∀ o, s.os[m]? = some o → ∀ n : Nat, ((7 : Int), (n : Int)) ∈ o.s → l[n]? = some true
theorem set_keeps {l : List Bool} {n m : Nat} (h : l[m]? = some true) : (l.set n true)[m]? = some true := by
  rw [List.getElem?_set]
  by_cases e : n = m
  · subst e
    rw [if_pos rfl, if_pos (List.getElem?_eq_some_iff.1 h).1]
  · rw [if_neg e]; exact h
theorem SkB.mark {s : St} {rs : List (Int × Int)} {l : List Bool} (h : SkB s rs l) {n : Nat} (hr : Rch s rs n) : SkB s rs (l.set n true) := by
  refine ⟨by rw [List.length_set]; exact h.len, fun i hi => ?_, fun m hm => set_keeps (h.root m hm)⟩
  rw [List.getElem?_set] at hi
  by_cases e : n = i
  · subst e; exact hr
  · rw [if_neg e] at hi; exact h.rch i hi
theorem SkB.done {s : St} {rs : List (Int × Int)} {l : List Bool} (h : SkB s rs l) (hc : ∀ m, Clo s l m) (n : Nat) (hn : n < s.os.length) : l[n]? = some (rchB s rs n) := by
  have hiff : ∀ n, Rch s rs n → l[n]? = some true := by
    intro n hr
    induction hr with
    | root h1 => exact h.root _ h1
    | step _ ho h1 ih => exact hc _ ih _ ho _ h1
  cases hb : rchB s rs n with
  | true => exact hiff n (rchB_iff.1 hb)
  | false =>
    have hl : n < l.length := by rw [h.len]; exact hn
    rw [List.getElem?_eq_getElem hl]
    cases hx : l[n] with
    | false => rfl
    | true =>
      have := rchB_iff.2 (h.rch n (by rw [List.getElem?_eq_getElem hl, hx]))
      rw [hb] at this; cases this
/-- Roots are being marked. -/
structure RtB (s : St) (rs : List (Int × Int)) (l : List Bool) (k : Nat) : Prop where
  len : l.length = s.os.length
  rch : ∀ i : Nat, l[i]? = some true → Rch s rs i
  root : ∀ (j : Nat) (n : Nat), j < k → rs[j]? = some ((7 : Int), (n : Int)) → l[n]? = some true
theorem RtB.start {s : St} {rs : List (Int × Int)} : RtB s rs (List.replicate s.os.length false) 0 :=
  ⟨by simp, fun i hi => (by rw [List.getElem?_replicate] at hi; split at hi <;> cases hi), fun j n hj => absurd hj (Nat.not_lt_zero _)⟩
theorem RtB.skip {s : St} {rs : List (Int × Int)} {l : List Bool} {k : Nat} (h : RtB s rs l k) (hk : k < rs.length) (h7 : (rs[k]'hk).1 ≠ 7) : RtB s rs l (k + 1) :=
  ⟨h.len, h.rch, fun j n hj hr => by
    rcases Nat.lt_or_ge j k with hl | hl
    · exact h.root j n hl hr
    · obtain rfl : j = k := by omega
      rw [List.getElem?_eq_getElem hk] at hr
      exact absurd (by rw [Option.some.inj hr]) h7⟩
theorem RtB.mark {s : St} {rs : List (Int × Int)} {l : List Bool} {k n : Nat} (h : RtB s rs l k) (hr : rs[k]? = some ((7 : Int), (n : Int))) (hn : n < s.os.length) : RtB s rs (l.set n true) (k + 1) := by
  refine ⟨by rw [List.length_set]; exact h.len, fun i hi => ?_, fun j m hj hm => ?_⟩
  · rw [List.getElem?_set] at hi
    by_cases e : n = i
    · subst e; exact .root (List.mem_of_getElem? hr)
    · rw [if_neg e] at hi; exact h.rch i hi
  · rcases Nat.lt_or_ge j k with hl | hl
    · exact set_keeps (h.root j m hl hm)
    · obtain rfl : j = k := by omega
      rw [hr] at hm
      have e : n = m := by have := Option.some.inj hm; simp only [Prod.mk.injEq, true_and] at this; omega
      subst e
      rw [List.getElem?_set, if_pos rfl, if_pos (by rw [h.len]; exact hn)]
theorem RtB.fin {s : St} {rs : List (Int × Int)} {l : List Bool} (h : RtB s rs l rs.length) : SkB s rs l :=
  ⟨h.len, h.rch, fun n hn => by
    obtain ⟨j, hj, e⟩ := List.getElem_of_mem hn
    exact h.root j n hj (by rw [List.getElem?_eq_getElem hj, e])⟩

/-- Places, as far as they are written. -/
def plN (K : Nat → Bool) (n i : Nat) : List Int := (List.range n).map fun j => if j < i ∧ K j = true then ((plc K j : Nat) : Int) else 0
theorem plN_len (K : Nat → Bool) (n i : Nat) : (plN K n i).length = n := by simp [plN]
theorem plN_zero (K : Nat → Bool) (n : Nat) : plN K n 0 = List.replicate n 0 := by
  apply List.ext_getElem <;> simp [plN]
theorem plN_yes {K : Nat → Bool} {n i : Nat} (hK : K i = true) : plN K n (i + 1) = (plN K n i).set i ((plc K i : Nat) : Int) := by
  apply List.ext_getElem
  · simp [plN]
  · intro j h1 h2
    rw [List.getElem_set]
    simp only [plN, List.getElem_map, List.getElem_range]
    by_cases e : i = j
    · subst e; rw [if_pos ⟨by omega, hK⟩, if_pos rfl]
    · rw [if_neg e]
      by_cases hj : j < i ∧ K j = true
      · rw [if_pos hj, if_pos ⟨by omega, hj.2⟩]
      · rw [if_neg hj, if_neg (fun h => hj ⟨by omega, h.2⟩)]
theorem plN_no {K : Nat → Bool} {n i : Nat} (hK : K i = false) : plN K n (i + 1) = plN K n i := by
  unfold plN
  apply List.map_congr_left
  intro j _
  by_cases hj : j < i ∧ K j = true
  · rw [if_pos hj, if_pos ⟨by omega, hj.2⟩]
  · rw [if_neg hj, if_neg]
    rintro ⟨h1, h2⟩
    rcases Nat.lt_or_eq_of_le (Nat.le_of_lt_succ h1) with h3 | rfl
    · exact hj ⟨h3, h2⟩
    · rw [hK] at h2; cases h2
theorem plN_at {K : Nat → Bool} {n j : Nat} (hj : j < n) (hK : K j = true) : (plN K n n)[j]'(by rw [plN_len]; exact hj) = ((plc K j : Nat) : Int) := by
  simp only [plN, List.getElem_map, List.getElem_range]
  rw [if_pos ⟨hj, hK⟩]

def RO.mv (K : Nat → Bool) (m : RO) : RO := { m with o := m.o.mv K }
theorem roL_mv (K : Nat → Bool) (m : RO) : roL (m.mv K) = roL m := rfl
theorem kpt_ro {K : Nat → Bool} {ms : List RO} : ∀ k, k ≤ ms.length → roLs (kpt K (RO.mv K) ms k) = roLs (kpt K id ms k)
  | 0, _ => rfl
  | k + 1, hk => by
    rw [kpt_succ (by omega), kpt_succ (by omega), roLs_append, roLs_append, kpt_ro k (by omega)]
    congr 1
    cases K k
    · rfl
    · show roLs [RO.mv K _] = roLs [id _]
      rw [roLs_one, roLs_one]; rfl
/-- The roles that blocks have then. -/
def Qleft (K : Nat → Bool) (Q : Nat → Nat) (lv : Value) (b : Nat) : Nat := if lv.ownBlock = some b then 2 else if Q b = 2 then 4 else if Q b < 6 then Q b else if K (Q b - 6) then 6 + plc K (Q b - 6) else 4
theorem Qleft_old {K : Nat → Bool} {Q : Nat → Nat} {lv : Value} {b : Nat} (hl : lv.ownBlock ≠ some b) : Qleft K Q lv b = 0 ↔ Q b = 0 := by
  unfold Qleft
  rw [if_neg hl]
  split
  · omega
  · split
    · exact Iff.rfl
    · split <;> omega
theorem Qleft_low {K : Nat → Bool} {Q : Nat → Nat} {lv : Value} {b : Nat} (hl : lv.ownBlock ≠ some b) (h2 : Q b ≠ 2) (h : Q b < 6) : Qleft K Q lv b = Q b := by unfold Qleft; rw [if_neg hl, if_neg h2, if_pos h]
/-- Slots are being renumbered. -/
structure LpI (w wr : World) (Q : Nat → Nat) (ms : List RO) (K : Nat → Bool) (B : Nat) (lv : Value) (pb : Nat) (σ : Nat → List (Int × Int)) : Prop where
  row : wr.ownsRow B 83 10 lv (plc K ms.length) (roLs (kpt K id ms ms.length))
  pl : IRow wr pb (plN K ms.length ms.length)
  srow : ∀ (j : Nat) (hj : j < ms.length), wr.ownsRow 0 35 2 (ms[j]'hj).sv (ms[j]'hj).o.s.length (vcs (σ j))
  kp : Keeps (fun b => Q b < 6) w wr
  fr : Fr Q w wr
theorem LpI.set {w wr : World} {g : Nat} {Q : Nat → Nat} {s : St} {ms : List RO} {ov nv : Value} {K : Nat → Bool} {B : Nat} {lv : Value} {pb : Nat} {σ : Nat → List (Int × Int)} (hm : RsM w g Q s ms ov nv) (h : LpI w wr Q ms K B lv pb σ) (hB : w.heap.size ≤ B) (hpb : w.heap.size ≤ pb)
    {j : Nat} (hj : j < ms.length) {sb sc : Nat} (hsv : (ms[j]'hj).sv = .slice (some ⟨sb, 0, none⟩) (ms[j]'hj).o.s.length sc) {k : Nat} (hk : k < (σ j).length) (hkl : (σ j).length = (ms[j]'hj).o.s.length) {t n : Int} (ht : ((σ j)[k]'hk).1 = t) :
    LpI w (wr.setCell ⟨sb, k * 2 + 1, none⟩ (.int .i64 n)) Q ms K B lv pb (fun i => if i = j then (σ j).set k (t, n) else σ i) := by
  have hq : Q sb = 6 + j := hm.sQ j hj sb (by rw [hsv]; rfl)
  have hlt : sb < w.heap.size := hm.lt sb (by omega)
  have hke : Keeps (fun b => b ≠ sb) wr (wr.setCell ⟨sb, k * 2 + 1, none⟩ (.int .i64 n)) := (Keeps.refl _ _).set (fun h => h rfl) _
  refine ⟨ownsRow_keep h.row hke fun b hb e => ?_, h.pl.keep hke (by omega), fun i hi => ?_, ?_, ?_⟩
  · have := (h.row.lt b hb).1
    omega
  · by_cases e : i = j
    · subst e
      simp only [if_true]
      have h1 := h.srow i hi
      rw [hsv] at h1 ⊢
      have h2 := ownsRow_set h1 (j := k * 2 + 1) (by rw [vcs_len]; omega) (.int .i64 n)
      rw [← vcs_set1 hk (x := (t, n)) ht] at h2
      exact h2
    · simp only [if_neg e]
      exact ownsRow_keep (h.srow i hi) hke fun b hb e2 => by have := hm.sQ i hi b hb; rw [e2] at this; omega
  · exact h.kp.set (p := ⟨sb, k * 2 + 1, none⟩) (by simp only; omega) _
  · exact h.fr.set (p := ⟨sb, k * 2 + 1, none⟩) (.inr (by simp only; omega)) _
theorem LpI.drew {w wr : World} {Q : Nat → Nat} {ms : List RO} {K : Nat → Bool} {B : Nat} {lv : Value} {pb : Nat} {σ : Nat → List (Int × Int)} (h : LpI w wr Q ms K B lv pb σ) : LpI w wr.drew Q ms K B lv pb σ :=
  ⟨h.row, h.pl, h.srow, h.kp, h.fr.drew⟩
theorem LpI.below {w wr wr' : World} {Q : Nat → Nat} {ms : List RO} {K : Nat → Bool} {B : Nat} {lv : Value} {pb : Nat} {σ : Nat → List (Int × Int)} (h : LpI w wr Q ms K B lv pb σ) (hb : Below wr.heap.size wr wr') : LpI w wr' Q ms K B lv pb σ :=
  ⟨ownsRow_keep h.row (Keeps.of_below (P := fun _ => True) hb) fun _ _ => trivial, h.pl.below hb, fun j hj => ownsRow_keep (h.srow j hj) (Keeps.of_below (P := fun _ => True) hb) fun _ _ => trivial, h.kp.trans (Keeps.of_below hb), h.fr.belowThen hb⟩
theorem LpI.ext {w wr : World} {Q : Nat → Nat} {ms : List RO} {K : Nat → Bool} {B : Nat} {lv : Value} {pb : Nat} {σ τ : Nat → List (Int × Int)} (h : LpI w wr Q ms K B lv pb σ) (he : ∀ j, j < ms.length → σ j = τ j) : LpI w wr Q ms K B lv pb τ :=
  ⟨h.row, h.pl, fun j hj => by rw [← he j hj]; exact h.srow j hj, h.kp, h.fr⟩
/-- What each one's slots are: the kept ones ahead of place i have their new numbers. -/
def slP (K : Nat → Bool) (ms : List RO) (i j : Nat) : List (Int × Int) := match ms[j]? with
  | some m => if K j = true ∧ plc K j < i then m.o.s.map (mvV K) else m.o.s
  | none => []
theorem slP_zero {K : Nat → Bool} {ms : List RO} {j : Nat} (hj : j < ms.length) : slP K ms 0 j = (ms[j]'hj).o.s := by
  unfold slP
  rw [List.getElem?_eq_getElem hj]
  simp
theorem slP_at {K : Nat → Bool} {ms : List RO} {j : Nat} (hj : j < ms.length) : slP K ms (plc K j) j = (ms[j]'hj).o.s := by
  unfold slP
  rw [List.getElem?_eq_getElem hj]
  simp
theorem slP_full {K : Nat → Bool} {ms : List RO} {j : Nat} (hj : j < ms.length) (hK : K j = true) : slP K ms (plc K ms.length) j = (ms[j]'hj).o.s.map (mvV K) := by
  unfold slP
  rw [List.getElem?_eq_getElem hj]
  simp only
  rw [if_pos ⟨hK, plc_lt K hK hj⟩]
theorem plc_inj {K : Nat → Bool} {i j : Nat} (hi : K i = true) (hj : K j = true) (h : plc K i = plc K j) : i = j := by
  rcases Nat.lt_trichotomy i j with h1 | h1 | h1
  · have := plc_lt K hi h1; omega
  · exact h1
  · have := plc_lt K hj h1; omega
theorem slP_succ {K : Nat → Bool} {ms : List RO} {j : Nat} (hj : j < ms.length) (hK : K j = true) (i : Nat) (hi : i < ms.length) : slP K ms (plc K j + 1) i = if i = j then (ms[j]'hj).o.s.map (mvV K) else slP K ms (plc K j) i := by
  by_cases e : i = j
  · subst e
    rw [if_pos rfl]
    unfold slP
    rw [List.getElem?_eq_getElem hj]
    simp only
    rw [if_pos ⟨hK, by omega⟩]
  · rw [if_neg e]
    unfold slP
    rw [List.getElem?_eq_getElem hi]
    simp only
    by_cases h : K i = true ∧ plc K i < plc K j
    · rw [if_pos h, if_pos ⟨h.1, by omega⟩]
    · rw [if_neg h, if_neg]
      rintro ⟨h1, h2⟩
      exact e (plc_inj h1 hK (by have : ¬ plc K i < plc K j := fun h3 => h ⟨h1, h3⟩; omega))
theorem RsM.lpi {w wr : World} {g : Nat} {Q : Nat → Nat} {s : St} {ms : List RO} {ov nv : Value} (hm : RsM w g Q s ms ov nv) {K : Nat → Bool} {B : Nat} {lv : Value} {pb : Nat} (hb : Below w.heap.size w wr)
    (hrow : wr.ownsRow B 83 10 lv (plc K ms.length) (roLs (kpt K id ms ms.length))) (hpl : IRow wr pb (plN K ms.length ms.length)) : LpI w wr Q ms K B lv pb (slP K ms 0) :=
  ⟨hrow, hpl, fun j hj => by rw [slP_zero hj]; exact ownsRow_keep (hm.srow j hj) (Keeps.of_below (P := fun _ => True) hb) fun _ _ => trivial, Keeps.of_below hb, Fr.of_below hb⟩
/-- All that is left, as a list again. -/
theorem RsM.leave {w wr : World} {g : Nat} {Q : Nat → Nat} {s : St} {ms : List RO} {nv ov lv : Value} {B : Nat} (h : RsM w g Q s ms ov nv) {K : Nat → Bool} (hK : ∀ (m n : Nat) (o : Ob), K m = true → s.os[m]? = some o → ((7 : Int), (n : Int)) ∈ o.s → K n = true) (hB : w.heap.size ≤ B)
    (hbox : wr.heap[g]? = some (.cells #[.int .i64 (s.L : Nat), .int .i64 ((s.left K).U : Nat), lv, nv] 32 (0, 0)))
    (hrow : wr.ownsRow B 83 10 lv (plc K ms.length) (roLs (kpt K id ms ms.length)))
    (hsrow : ∀ (i : Nat) (hi : i < ms.length), K i = true → wr.ownsRow 0 35 2 (ms[i]'hi).sv (ms[i]'hi).o.s.length (vcs ((ms[i]'hi).o.s.map (mvV K)))) (hkp : Keeps (fun b => Q b < 6 ∧ b ≠ g) w wr) :
    RsM wr g (Qleft K Q lv) (s.left K) (kpt K (RO.mv K) ms ms.length) lv nv := by
  have hlen : (kpt K (RO.mv K) ms ms.length).length = plc K ms.length := kpt_len (Nat.le_refl _)
  have hlv : ∀ b, lv.ownBlock = some b → w.heap.size ≤ b := fun b hb => Nat.le_trans hB (hrow.lt b hb).1
  have hold : ∀ b, Q b ≠ 0 → lv.ownBlock ≠ some b := fun b hb e => by have := hlv b e; have := h.lt b hb; omega
  have hgQ := h.gQ
  have hat : ∀ (j : Nat) (hj : j < (kpt K (RO.mv K) ms ms.length).length), ∃ (i : Nat) (hi : i < ms.length), K i = true ∧ plc K i = j ∧ (kpt K (RO.mv K) ms ms.length)[j] = (ms[i]'hi).mv K := by
    intro j hj
    obtain ⟨i, hi, hKi, hp⟩ := kpt_inv (K := K) (k := ms.length) (j := j) (by omega)
    have := kpt_get (K := K) (f := RO.mv K) (Nat.le_refl _) hi hKi
    rw [hp, List.getElem?_eq_getElem hj] at this
    exact ⟨i, hi, hKi, hp, Option.some.inj this⟩
  refine ⟨h.ok.left hK, ?_, fun b hb => ?_, ?_, hbox, ?_, fun b hb => ?_, fun j hj => ?_, fun j hj b hb => ?_, ?_, fun b hb => ?_⟩
  · show kpt K (Ob.mv K) s.os s.os.length = _
    have h1 := kpt_map (K := K) (f := RO.mv K) (f' := Ob.mv K) RO.o (fun _ => rfl) (l := ms) ms.length (Nat.le_refl _)
    rw [h1, h.eqs, List.length_map]
  · by_cases hl : lv.ownBlock = some b
    · exact (hrow.lt b hl).2
    · exact Nat.lt_of_lt_of_le (h.lt b fun h0 => hb ((Qleft_old hl).2 h0)) hkp.1
  · rw [Qleft_low (hold g (by omega)) (by omega) (by omega)]; exact hgQ
  · rw [hlen, kpt_ro _ (Nat.le_refl _)]
    exact ⟨hrow.1, hrow.2.imp id fun ⟨a, c, cu, e, _, h⟩ => ⟨a, c, cu, e, Nat.zero_le _, h⟩⟩
  · unfold Qleft; rw [if_pos hb]
  · obtain ⟨i, hi, hKi, _, e⟩ := hat j hj
    rw [e]
    have h1 := hsrow i hi hKi
    have h2 : ((ms[i]'hi).mv K).o.s.length = (ms[i]'hi).o.s.length := by simp [RO.mv, Ob.mv]
    rw [h2]
    exact h1
  · obtain ⟨i, hi, hKi, hp, e⟩ := hat j hj
    rw [e] at hb
    have h1 := h.sQ i hi b hb
    unfold Qleft
    rw [if_neg (hold b (by omega)), h1, if_neg (by omega), if_neg (by omega), show 6 + i - 6 = i by omega, if_pos hKi, hp]
  · exact ownsRow_keep h.nrow hkp fun b hb => by have := h.nQ b hb; exact ⟨by omega, fun e => by subst e; omega⟩
  · have := h.nQ b hb
    rw [Qleft_low (hold b (by omega)) (by omega) (by omega)]; exact this
theorem roL_shape {m : RO} {so : Option Addr} {n sc : Nat} (h : m.sv = .slice so n sc) : ∃ pk pt pn pa, roL m = [.int .i64 m.o.k, .slice so n sc, .int .i64 pk, .string pt, .bool pn, .slice none 0 0, .slice none 0 0, .int .i64 pa, .slice none 0 0, .slice none 0 0] := by
  unfold roL
  rw [h]
  cases m.o.x with
  | none => exact ⟨_, _, _, _, rfl⟩
  | some p => exact ⟨_, _, _, _, rfl⟩
theorem row1o (w : World) (cs : List Value) (e : TypeId) : RowV (w.alloc (.cells cs.toArray e)) (.slice (some ⟨w.heap.size, 0, none⟩) 1 1) 1 cs.length cs := by
  refine ⟨by omega, by unfold maxLen; omega, _, 1, rfl, Nat.le_refl _, .inr ⟨_, 0, rfl, by simp, fun j u hu => ?_⟩⟩
  rw [cell_of_row _ w.heap.size (0 + j) _ _ (0, 0) (heap_alloc_new w _), Nat.zero_add]
  simpa using hu
/-- Marks, places, and what is left so far: new, and apart. -/
structure LfI (w wz : World) (sb pb B : Nat) (l0 : List Bool) (P : List Int) (lv : Value) (p : Nat) (xs : List Value) : Prop where
  bel : Below w.heap.size w wz
  br : BRow wz sb l0
  pl : IRow wz pb P
  row : wz.ownsRow B 83 10 lv p xs
  lo : w.heap.size ≤ sb ∧ sb < pb ∧ pb < B ∧ B ≤ wz.heap.size
section
variable {w wz wz' : World} {sb pb B : Nat} {l0 : List Bool} {P : List Int} {lv : Value} {p : Nat} {xs : List Value}
theorem LfI.below (h : LfI w wz sb pb B l0 P lv p xs) (hb : Below wz.heap.size wz wz') : LfI w wz' sb pb B l0 P lv p xs :=
  ⟨h.bel.trans (hb.mono h.bel.size), h.br.below hb, h.pl.below hb, ownsRow_keep h.row (Keeps.of_below (P := fun _ => True) hb) fun _ _ => trivial, h.lo.1, h.lo.2.1, h.lo.2.2.1, Nat.le_trans h.lo.2.2.2 hb.size⟩
theorem LfI.put (h : LfI w wz sb pb B l0 P lv p xs) (j : Nat) (x : Int) : LfI w (wz.setCell ⟨pb, j, none⟩ (.int .i64 x)) sb pb B l0 (P.set j x) lv p xs := by
  have hk : Keeps (fun b => b ≠ pb) wz (wz.setCell ⟨pb, j, none⟩ (.int .i64 x)) := (Keeps.refl _ _).set (fun h => h rfl) _
  have := h.lo
  refine ⟨h.bel.setCell (p := ⟨pb, j, none⟩) (by simp only; omega) _, h.br.keep hk (by omega), h.pl.set j x, ownsRow_keep h.row hk fun b hb e => ?_, h.lo.1, h.lo.2.1, h.lo.2.2.1, by simpa using h.lo.2.2.2⟩
  have := (h.row.lt b hb).1
  omega
theorem LfI.grow {lv' : Value} {p' : Nat} {xs' : List Value} (h : LfI w wz sb pb B l0 P lv p xs) (hown : wz'.ownsRow B 83 10 lv' p' xs') (hg : wz.grownBy wz' lv.ownBlock) : LfI w wz' sb pb B l0 P lv' p' xs' := by
  have hl : ∀ b, lv.ownBlock = some b → B ≤ b := fun b hb => (h.row.lt b hb).1
  have hk : Keeps (fun b => lv.ownBlock ≠ some b) wz wz' := Keeps.of_grown hg fun b e hn => hn e
  have := h.lo
  have hsz := hg.size
  exact ⟨h.bel.grown hg h.bel.size (fun q hq => by have := hl q hq; omega), h.br.keep hk (fun e => by have := hl _ e; omega), h.pl.keep hk (fun e => by have := hl _ e; omega), hown, h.lo.1, h.lo.2.1, h.lo.2.2.1, by omega⟩
end
end Go.Proofs.Ytioidaojnbenbaa
