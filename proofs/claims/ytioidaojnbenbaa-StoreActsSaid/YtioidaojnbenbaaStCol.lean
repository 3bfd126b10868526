/- What can be come to, and what is left of a store. No walk here. -/
import Derived.Test.YtioidaojnbenbaaStMem
namespace Go.Proofs.Ytioidaojnbenbaa
open Go.RowKit

/-- The n-th object can be come to. -/
inductive Rch (s : St) (rs : List (Int × Int)) : Nat → Prop
  | root {n : Nat} (h : ((7 : Int), (n : Int)) ∈ rs) : Rch s rs n
  | step {m n : Nat} {o : Ob} (hm : Rch s rs m) (ho : s.os[m]? = some o) (h : ((7 : Int), (n : Int)) ∈ o.s) : Rch s rs n
noncomputable def rchB (s : St) (rs : List (Int × Int)) (n : Nat) : Bool := @decide (Rch s rs n) (Classical.propDecidable _)
theorem rchB_iff {s : St} {rs : List (Int × Int)} {n : Nat} : rchB s rs n = true ↔ Rch s rs n := by unfold rchB; simp

/-- How many ahead of it are left. -/
def plc (K : Nat → Bool) (n : Nat) : Nat := (List.range n).countP K
theorem plc_zero (K : Nat → Bool) : plc K 0 = 0 := rfl
theorem plc_succ (K : Nat → Bool) (n : Nat) : plc K (n + 1) = plc K n + if K n then 1 else 0 := by
  unfold plc
  rw [List.range_succ, List.countP_append, List.countP_singleton]
theorem plc_le (K : Nat → Bool) (n : Nat) : plc K n ≤ n := by
  induction n with
  | zero => exact Nat.le_refl _
  | succ n ih => rw [plc_succ]; split <;> omega
theorem plc_mono (K : Nat → Bool) {m n : Nat} (h : m ≤ n) : plc K m ≤ plc K n := by
  induction n with
  | zero => obtain rfl : m = 0 := by omega
            exact Nat.le_refl _
  | succ n ih =>
    rcases Nat.lt_or_eq_of_le h with h | rfl
    · rw [plc_succ]; have := ih (by omega); omega
    · exact Nat.le_refl _
theorem plc_lt (K : Nat → Bool) {m n : Nat} (hk : K m = true) (h : m < n) : plc K m < plc K n := by
  have h1 := plc_mono K (show m + 1 ≤ n by omega)
  rw [plc_succ, if_pos hk] at h1
  omega
/-- A value, where its object is now. -/
def mvV (K : Nat → Bool) (v : Int × Int) : Int × Int := if v.1 = 7 then (7, ((plc K v.2.toNat : Nat) : Int)) else v

/-- What is left of the first k ones. -/
def kpt {α : Type} (K : Nat → Bool) (f : α → α) (l : List α) (k : Nat) : List α := (List.range k).filterMap fun i => if K i then (l[i]?).map f else none
section
variable {α : Type} {K : Nat → Bool} {f : α → α} {l : List α}
theorem kpt_zero : kpt K f l 0 = [] := rfl
theorem kpt_succ {k : Nat} (hk : k < l.length) : kpt K f l (k + 1) = kpt K f l k ++ if K k then [f (l[k]'hk)] else [] := by
  unfold kpt
  rw [List.range_succ, List.filterMap_append]
  congr 1
  cases hK : K k <;> simp [hK, hk]
theorem kpt_len {k : Nat} (hk : k ≤ l.length) : (kpt K f l k).length = plc K k := by
  induction k with
  | zero => rfl
  | succ k ih =>
    rw [kpt_succ (by omega), List.length_append, ih (by omega), plc_succ]
    split <;> rfl
theorem kpt_mem {k : Nat} {x : α} (h : x ∈ kpt K f l k) : ∃ (i : Nat) (hi : i < l.length), i < k ∧ K i = true ∧ x = f (l[i]'hi) := by
  unfold kpt at h
  rw [List.mem_filterMap] at h
  obtain ⟨i, hi, h⟩ := h
  rw [List.mem_range] at hi
  split at h
  · rename_i hK
    rw [Option.map_eq_some_iff] at h
    obtain ⟨a, ha, rfl⟩ := h
    obtain ⟨hl, rfl⟩ := List.getElem?_eq_some_iff.1 ha
    exact ⟨i, hl, hi, hK, rfl⟩
  · cases h
theorem kpt_get {k : Nat} (hk : k ≤ l.length) {i : Nat} (hi : i < k) (hK : K i = true) : (kpt K f l k)[plc K i]? = some (f (l[i]'(by omega))) := by
  induction k with
  | zero => omega
  | succ k ih =>
    rw [kpt_succ (by omega)]
    rcases Nat.lt_or_eq_of_le (Nat.le_of_lt_succ hi) with h | rfl
    · rw [List.getElem?_append_left (by rw [kpt_len (by omega)]; exact plc_lt K hK h)]
      exact ih (by omega) h
    · rw [List.getElem?_append_right (by rw [kpt_len (by omega)]; exact Nat.le_refl _), kpt_len (by omega), if_pos hK]
      simp
end
theorem kpt_map {α β : Type} {K : Nat → Bool} {f : α → α} {f' : β → β} (g : α → β) (h : ∀ a, g (f a) = f' (g a)) {l : List α} : ∀ (k : Nat), k ≤ l.length → (kpt K f l k).map g = kpt K f' (l.map g) k
  | 0, _ => rfl
  | k + 1, hk => by
    rw [kpt_succ (by omega), kpt_succ (by simp; omega), List.map_append, kpt_map g h k (by omega)]
    congr 1
    cases K k <;> simp [h]

def Ob.mv (K : Nat → Bool) (o : Ob) : Ob := { o with s := o.s.map (mvV K) }
/-- What is left. -/
def St.left (s : St) (K : Nat → Bool) : St := { s with U := ((kpt K (Ob.mv K) s.os s.os.length).map Ob.c).sum, os := kpt K (Ob.mv K) s.os s.os.length }
noncomputable def St.col (s : St) (rs : List (Int × Int)) : St := s.left (rchB s rs)
theorem kpt_sum_le {K : Nat → Bool} {l : List Ob} : ∀ k, k ≤ l.length → ((kpt K (Ob.mv K) l k).map Ob.c).sum ≤ ((l.take k).map Ob.c).sum
  | 0, _ => Nat.le_refl _
  | k + 1, hk => by
    have ih := kpt_sum_le (K := K) (l := l) k (by omega)
    rw [kpt_succ (by omega), List.take_succ_eq_append_getElem (by omega), List.map_append, List.map_append, List.sum_append, List.sum_append]
    have e : ∀ o : Ob, (Ob.mv K o).c = o.c := fun _ => rfl
    cases K k
    · simp only [Bool.false_eq_true, if_false, List.map_nil, List.sum_nil, List.map_cons, List.sum_cons]; omega
    · simp only [if_true, List.map_nil, List.sum_nil, List.map_cons, List.sum_cons, e]; omega
theorem sd_in {no nn : Nat} {v : Int × Int} (h : sdV no nn v = true) (h7 : v.1 = 7) : ∃ n : Nat, v = (7, (n : Int)) ∧ n < no := by
  rw [sdV_obj h7] at h
  simp only [decide_eq_true_iff] at h
  obtain ⟨t, n⟩ := v
  simp only at h h7
  subst h7
  obtain ⟨m, rfl⟩ := Int.eq_ofNat_of_zero_le h.1
  exact ⟨m, rfl, by omega⟩
/-- What is left is sound again, if all that holds each other goes on being there. -/
theorem St.Ok.left {s : St} (h : s.Ok) {K : Nat → Bool} (hK : ∀ (m n : Nat) (o : Ob), K m = true → s.os[m]? = some o → ((7 : Int), (n : Int)) ∈ o.s → K n = true) : (s.left K).Ok := by
  have hlen : (s.left K).os.length = plc K s.os.length := kpt_len (Nat.le_refl _)
  have hle := kpt_sum_le (K := K) (l := s.os) s.os.length (Nat.le_refl _)
  rw [List.take_length, h.sum] at hle
  refine ⟨Nat.le_trans hle h.UL, h.LM, rfl, fun o ho => ?_, fun o ho v hv => ?_, h.nd, h.nl⟩
  · obtain ⟨i, hi, _, _, rfl⟩ := kpt_mem ho
    have := h.cpos _ (List.getElem_mem hi)
    simpa [Ob.mv] using this
  · obtain ⟨i, hi, _, hKi, rfl⟩ := kpt_mem ho
    unfold Ob.mv at hv
    obtain ⟨u, hu, rfl⟩ := List.mem_map.1 hv
    have hsu := h.snd _ (List.getElem_mem hi) u hu
    rw [hlen]
    by_cases h7 : u.1 = 7
    · obtain ⟨n, rfl, hn⟩ := sd_in hsu h7
      have hkn := hK i n _ hKi (List.getElem?_eq_getElem hi) hu
      have := plc_lt K hkn hn
      unfold mvV
      rw [if_pos rfl, sdV_obj rfl]
      simp
      omega
    · unfold mvV
      rw [if_neg h7]
      show sdV (plc K s.os.length) s.ns.length u = true
      unfold sdV at hsu ⊢
      simpa [h7] using hsu
theorem rch_closed {s : St} {rs : List (Int × Int)} : ∀ (m n : Nat) (o : Ob), rchB s rs m = true → s.os[m]? = some o → ((7 : Int), (n : Int)) ∈ o.s → rchB s rs n = true :=
  fun _ _ _ hm ho h => rchB_iff.2 (.step (rchB_iff.1 hm) ho h)
theorem rch_lt {s : St} (h : s.Ok) {rs : List (Int × Int)} (hr : rs.all (sdV s.os.length s.ns.length) = true) {n : Nat} (hn : Rch s rs n) : n < s.os.length := by
  cases hn with
  | root h1 =>
    obtain ⟨m, e, hm⟩ := sd_in (List.all_eq_true.1 hr _ h1) rfl
    simp only [Prod.mk.injEq, true_and] at e
    omega
  | step hm ho h1 =>
    obtain ⟨m, e, hm⟩ := sd_in (h.snd _ (List.mem_of_getElem? ho) _ h1) rfl
    simp only [Prod.mk.injEq, true_and] at e
    omega

/-- Which numbers are marked: -1 is not. -/
def mkd (N : List Int) (n : Nat) : Bool := match N[n]? with
  | some x => x != -1
  | none => false
/-- What holds while what can be come to is sought: marks are right; what marked ones hold is marked or waits. -/
structure Seek (s : St) (rs : List (Int × Int)) (N : List Int) (W : (Int × Int) → Prop) : Prop where
  len : N.length = s.os.length
  val : ∀ (i : Nat) (h : i < N.length), N[i] = -1 ∨ N[i] = (i : Int)
  rch : ∀ i, mkd N i = true → Rch s rs i
  root : ∀ n : Nat, ((7 : Int), (n : Int)) ∈ rs → mkd N n = true ∨ W (7, (n : Int))
  next : ∀ (m n : Nat) (o : Ob), mkd N m = true → s.os[m]? = some o → ((7 : Int), (n : Int)) ∈ o.s → mkd N n = true ∨ W (7, (n : Int))
theorem mkd_set {N : List Int} {n : Nat} (hn : n < N.length) (m : Nat) : mkd (N.set n (n : Int)) m = if m = n then true else mkd N m := by
  unfold mkd
  rw [List.getElem?_set]
  by_cases h : n = m
  · subst h
    simp only [hn, if_true]
    rw [bne_iff_ne]
    omega
  · rw [if_neg h, if_neg (fun e => h e.symm)]
theorem mkd_not {N : List Int} {n : Nat} (hn : n < N.length) : mkd N n = false ↔ N[n] = -1 := by
  unfold mkd
  rw [List.getElem?_eq_getElem hn]
  simp
theorem Seek.mono {s : St} {rs : List (Int × Int)} {N : List Int} {W W' : (Int × Int) → Prop} (h : Seek s rs N W) (hw : ∀ n : Nat, W (7, (n : Int)) → mkd N n = true ∨ W' (7, (n : Int))) : Seek s rs N W' :=
  ⟨h.len, h.val, h.rch, fun n hn => (h.root n hn).elim .inl (hw n), fun m n o hm ho hn => (h.next m n o hm ho hn).elim .inl (hw n)⟩
/-- One more is marked; what it holds waits. -/
theorem Seek.mark {s : St} {rs : List (Int × Int)} {N : List Int} {W W' : (Int × Int) → Prop} (h : Seek s rs N W) {n : Nat} (hn : n < s.os.length) (hr : Rch s rs n) {o : Ob} (ho : s.os[n]? = some o) (hw : ∀ m : Nat, W (7, (m : Int)) → m = n ∨ W' (7, (m : Int))) (ho2 : ∀ v ∈ o.s, W' v) : Seek s rs (N.set n (n : Int)) W' := by
  have hnl : n < N.length := by rw [h.len]; exact hn
  have hup : ∀ m, mkd N m = true → mkd (N.set n (n : Int)) m = true := fun m hm => by rw [mkd_set hnl]; split <;> simp [hm]
  refine ⟨by rw [List.length_set]; exact h.len, fun i hi => ?_, fun i hi => ?_, fun m hm => ?_, fun a m o' ha ho' hm => ?_⟩
  · rw [List.getElem_set]
    split
    · rename_i e; subst e; exact .inr rfl
    · exact h.val i (by simpa using hi)
  · rw [mkd_set hnl] at hi
    split at hi
    · rename_i e; subst e; exact hr
    · exact h.rch i hi
  · rcases h.root m hm with h1 | h1
    · exact .inl (hup m h1)
    · rcases hw m h1 with rfl | h2
      · exact .inl (by rw [mkd_set hnl, if_pos rfl])
      · exact .inr h2
  · rw [mkd_set hnl] at ha
    by_cases e : a = n
    · subst e
      rw [ho] at ho'
      obtain rfl := Option.some.inj ho'
      exact .inr (ho2 _ hm)
    · rw [if_neg e] at ha
      rcases h.next a m o' ha ho' hm with h1 | h1
      · exact .inl (hup m h1)
      · rcases hw m h1 with rfl | h2
        · exact .inl (by rw [mkd_set hnl, if_pos rfl])
        · exact .inr h2
/-- When nothing waits, the marks are what can be come to. -/
theorem Seek.done {s : St} (_hok : s.Ok) {rs : List (Int × Int)} {N : List Int} {W : (Int × Int) → Prop} (h : Seek s rs N W) (hw : ∀ v, ¬ W v) (n : Nat) : mkd N n = rchB s rs n := by
  rw [Bool.eq_iff_iff, rchB_iff]
  refine ⟨h.rch n, fun hn => ?_⟩
  induction hn with
  | root h1 => exact (h.root _ h1).resolve_right (hw _)
  | step _ ho h1 ih => exact (h.next _ _ _ ih ho h1).resolve_right (hw _)
theorem Seek.start {s : St} {rs : List (Int × Int)} : Seek s rs (List.replicate s.os.length (-1)) (fun v => v ∈ rs) := by
  have hno : ∀ i, mkd (List.replicate s.os.length (-1)) i = false := fun i => by
    unfold mkd
    by_cases h : i < s.os.length
    · simp [h]
    · simp [h]
  exact ⟨by simp, fun i hi => .inl (by simp), fun i hi => (by rw [hno] at hi; cases hi), fun n hn => .inr hn, fun m n o hm => (by rw [hno] at hm; cases hm)⟩
/-- How many are not marked. -/
def unm (N : List Int) : Nat := N.countP (fun x => x == -1)
theorem unm_set {N : List Int} {n : Nat} (hn : n < N.length) (h : N[n] = -1) : unm (N.set n (n : Int)) + 1 = unm N := by
  unfold unm
  have hsplit : N = N.take n ++ N[n] :: N.drop (n + 1) := by rw [← List.drop_eq_getElem_cons hn, List.take_append_drop]
  have e1 : N.set n (n : Int) = N.take n ++ (n : Int) :: N.drop (n + 1) := by
    rw [List.set_eq_take_append_cons_drop, if_pos hn]
  rw [e1]
  conv => rhs; rw [hsplit]
  rw [List.countP_append, List.countP_append, List.countP_cons, List.countP_cons, h]
  have : (((n : Int)) == -1) = false := by rw [beq_eq_false_iff_ne]; omega
  rw [this]
  simp
  omega
/-- The new numbers. -/
def nums (K : Nat → Bool) (n : Nat) : List Int := (List.range n).map fun i => if K i then ((plc K i : Nat) : Int) else -1
end Go.Proofs.Ytioidaojnbenbaa
