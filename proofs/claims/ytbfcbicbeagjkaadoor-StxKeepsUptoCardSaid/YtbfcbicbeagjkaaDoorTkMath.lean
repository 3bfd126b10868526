/- A number has one form. | Which number a text is. No walk here. | Digits without the noughts ahead. No walk here. | What words a text has. No walk here. -/
import Derived.Test.YtbfcbicbeagjkaaDoorAdd
import Derived.Lib.TrimByte
import Derived.Test.YtbfcbicbeagjkaaDoorTkSc
import Derived.Test.YtbfcbicbeagjkaaDoorUEncMath
namespace Go.Proofs.YtbfcbicbeagjkaaDoor
open Go.RowKit

theorem V_inj {f g : Nat → Nat} (hf : ∀ i, f i < 1000000000) (hg : ∀ i, g i < 1000000000) {n : Nat} (h : V f n = V g n) : ∀ i, i < n → f i = g i := by
  induction n with
  | zero => intro i hi; omega
  | succ n ih =>
    simp only [V] at h
    have a := V_lt hf n
    have b := V_lt hg n
    have e : f n = g n := by
      rcases Nat.lt_trichotomy (f n) (g n) with c | c | c
      · have : (f n + 1) * 1000000000 ^ n ≤ g n * 1000000000 ^ n := Nat.mul_le_mul_right _ c
        rw [Nat.add_mul, Nat.one_mul] at this
        omega
      · exact c
      · have : (g n + 1) * 1000000000 ^ n ≤ f n * 1000000000 ^ n := Nat.mul_le_mul_right _ c
        rw [Nat.add_mul, Nat.one_mul] at this
        omega
    rw [e] at h
    intro i hi
    by_cases e2 : i = n
    · rw [e2]; exact e
    · exact ih (by omega) i (by omega)

theorem list_limbs {xs ys : List Nat} (hl : xs.length = ys.length) (h : ∀ i, i < xs.length → limb xs i = limb ys i) : xs = ys := by
  apply List.ext_getElem hl
  intro i h1 h2
  have := h i h1
  rwa [limb_lt h1, limb_lt h2] at this

theorem snd_list {n1 n2 : Bool} {xs ys : List Nat} (hx : Snd n1 xs) (hy : Snd n2 ys) (h : val xs = val ys) : xs = ys := by
  have h1 := len_le_of_val hx hy (by omega)
  have h2 := len_le_of_val hy hx (by omega)
  refine list_limbs (by omega) (V_inj hx.2.1 hy.2.1 (n := xs.length) ?_)
  rw [val_eq (Nat.le_refl _), val_eq h1]
  exact h

end Go.Proofs.YtbfcbicbeagjkaaDoor
namespace Go.Proofs.YtbfcbicbeagjkaaDoor
open Go.RowKit

/-- What stands behind the sign. -/
def fromA (s : ByteArray) : Nat := if 0 < s.size ∧ (bt s 0 = 43 ∨ bt s 0 = 45) then 1 else 0
def negA (s : ByteArray) : Bool := decide (bt s 0 = 45)
/-- The digits behind the sign, the lowest first. -/
def bodyA (s : ByteArray) : List Nat := (List.range (s.size - fromA s)).map fun j => bt s (s.size - 1 - j) - 48
/-- Is it a number's text? -/
def okA (s : ByteArray) : Prop := fromA s < s.size ∧ ∀ j, fromA s ≤ j → j < s.size → 48 ≤ bt s j ∧ bt s j ≤ 57
/-- What Parse answers. -/
def PPost (s : ByteArray) (w : World) (e : Ending) (w' : World) : Prop :=
  ∃ v neg rs ok, e = .returned (.tuple #[v, .bool ok]) ∧ IntV w' v neg rs ∧ Below w.heap.size w w' ∧
    ((okA s ∧ ok = true ∧ Snd neg rs ∧ val rs = dval (bodyA s) ∧ (rs ≠ [] → neg = negA s)) ∨ (ok = false ∧ neg = false ∧ rs = [] ∧ (okA s → 1000000000 ^ 64 ≤ dval (bodyA s))))
theorem PPost.no {s : ByteArray} {w w' : World} {v : Value} (hv : IntV w' v false []) (hb : Below w.heap.size w w') (h : ¬ okA s) : PPost s w (.returned (.tuple #[v, .bool false])) w' :=
  ⟨v, false, [], false, rfl, hv, hb, .inr ⟨rfl, rfl, rfl, fun g => absurd g h⟩⟩
theorem parse_unique {s : ByteArray} {n1 n2 o1 o2 : Bool} {r1 r2 : List Nat}
    (h1 : (okA s ∧ o1 = true ∧ Snd n1 r1 ∧ val r1 = dval (bodyA s) ∧ (r1 ≠ [] → n1 = negA s)) ∨ (o1 = false ∧ n1 = false ∧ r1 = [] ∧ (okA s → 1000000000 ^ 64 ≤ dval (bodyA s))))
    (h2 : (okA s ∧ o2 = true ∧ Snd n2 r2 ∧ val r2 = dval (bodyA s) ∧ (r2 ≠ [] → n2 = negA s)) ∨ (o2 = false ∧ n2 = false ∧ r2 = [] ∧ (okA s → 1000000000 ^ 64 ≤ dval (bodyA s)))) :
    n1 = n2 ∧ r1 = r2 ∧ o1 = o2 := by
  have key : ∀ {n : Bool} {r : List Nat}, Snd n r → val r = dval (bodyA s) → ¬ 1000000000 ^ 64 ≤ dval (bodyA s) := by
    intro n r hs hv
    have h1 : val r < 1000000000 ^ 64 := Nat.lt_of_lt_of_le (val_lt hs.2.1) (Nat.pow_le_pow_right (by omega) hs.1)
    omega
  rcases h1 with ⟨a, rfl, b, c, d⟩ | ⟨rfl, rfl, rfl, a⟩
  · rcases h2 with ⟨_, rfl, f, g, h⟩ | ⟨_, _, _, e⟩
    · have hl := snd_list b f (by rw [c, g])
      subst hl
      refine ⟨?_, rfl, rfl⟩
      by_cases hr : r1 = []
      · rw [b.2.2.1 hr, f.2.2.1 hr]
      · rw [d hr, h hr]
    · exact absurd (e a) (key b c)
  · rcases h2 with ⟨e, _, f, g, _⟩ | ⟨rfl, rfl, rfl, _⟩
    · exact absurd (a e) (key f g)
    · exact ⟨rfl, rfl, rfl⟩
end Go.Proofs.YtbfcbicbeagjkaaDoor
namespace Go.Proofs.YtbfcbicbeagjkaaDoor
open Go.RowKit

def digsL (t : List UInt8) : List Nat := t.reverse.map fun c => c.toNat - 48
theorem digs_list (s : ByteArray) : digs s = digsL s.data.toList := by
  have hl : s.data.toList.length = s.size := by simp
  apply List.ext_getElem
  · rw [digs_len]; simp [digsL]
  · intro i h1 h2
    rw [digs_len] at h1
    simp only [digs, digsL, List.getElem_map, List.getElem_range, List.getElem_reverse]
    unfold bt
    have hk : s.size - 1 - i < s.data.toList.length := by omega
    rw [List.getD_eq_getElem?_getD, List.getElem?_eq_getElem hk]
    simp
def DigL (t : List UInt8) : Prop := ∀ c ∈ t, 48 ≤ c.toNat ∧ c.toNat ≤ 57
theorem digsL_cons (c : UInt8) (t : List UInt8) : digsL (c :: t) = digsL t ++ [c.toNat - 48] := by simp [digsL]
theorem trim_val (t : List UInt8) : dval (digsL (Lib.trimLeftB t 48)) = dval (digsL t) := by
  unfold Lib.trimLeftB
  induction t with
  | nil => rfl
  | cons c t ih =>
    by_cases h : c = 48
    · subst h
      rw [digsL_cons, dval_snoc]
      have : (List.dropWhile (fun x => x == 48) ((48 : UInt8) :: t)) = List.dropWhile (fun x => x == 48) t := by simp []
      rw [this, ih]
      simp
    · have : (List.dropWhile (fun x => x == 48) (c :: t)) = c :: t := by simp [h]
      rw [this]
theorem trim_dig {t : List UInt8} (h : DigL t) : DigL (Lib.trimLeftB t 48) := by
  unfold Lib.trimLeftB
  intro c hc
  exact h c ((List.dropWhile_sublist _).mem hc)
theorem trim_top {t : List UInt8} (h : DigL t) : Top (digsL (Lib.trimLeftB t 48)) := by
  have hd := trim_dig h
  have key : ∀ c u, Lib.trimLeftB t 48 = c :: u → c ≠ 48 := by
    unfold Lib.trimLeftB
    clear h hd
    induction t with
    | nil => intro c u h; simp at h
    | cons a t ih =>
      intro c u h
      by_cases ha : a = 48
      · subst ha
        rw [List.dropWhile_cons] at h
        simp at h
        exact ih c u h
      · rw [List.dropWhile_cons] at h
        simp [ha] at h
        rw [← h.1]; exact ha
  intro hne
  rcases hu : Lib.trimLeftB t 48 with _ | ⟨c, u⟩
  · rw [hu] at hne; simp [digsL] at hne
  · have hc := key c u hu
    have hr := hd c (by rw [hu]; simp)
    rw [digsL_cons]
    have hl : (digsL u ++ [c.toNat - 48]).length - 1 = (digsL u).length := by simp
    rw [hl, limb_snoc, if_neg (by omega), if_pos rfl]
    intro h0
    apply hc
    have : c.toNat = 48 := by omega
    exact UInt8.toNat_inj.1 this
/-- What stands behind the sign, as a text. -/
theorem body_ext {s T : ByteArray} (hT : T.data.toList = s.data.toList.drop (fromA s)) : digs T = bodyA s ∧ T.size = s.size - fromA s ∧ ∀ j, bt T j = bt s (fromA s + j) := by
  have hl : s.data.toList.length = s.size := by simp
  have hb : ∀ j, bt T j = bt s (fromA s + j) := fun j => by unfold bt; rw [hT]; simp
  have hsz : T.size = s.size - fromA s := by
    have : T.data.toList.length = T.size := by simp
    rw [← this, hT]
    simp
  refine ⟨?_, hsz, hb⟩
  unfold digs bodyA
  rw [hsz]
  apply List.map_congr_left
  intro j hj
  simp only [List.mem_range] at hj
  rw [hb]
  congr 2
  omega
theorem okA_iff {s T : ByteArray} (hT : T.data.toList = s.data.toList.drop (fromA s)) (hne : 0 < T.size) (hd : allD T = true) : okA s := by
  obtain ⟨_, h2, h3⟩ := body_ext hT
  refine ⟨by omega, fun j h4 h5 => ?_⟩
  have := h3 (j - fromA s)
  rw [show fromA s + (j - fromA s) = j by omega] at this
  rw [← this]
  unfold allD at hd
  rw [List.all_eq_true] at hd
  have hl : j - fromA s < T.data.toList.length := by simp; omega
  have h6 := hd _ (List.getElem_mem hl)
  unfold dgB at h6
  unfold bt
  simp only [decide_eq_true_iff] at h6
  rw [List.getD_eq_getElem?_getD, List.getElem?_eq_getElem hl]
  exact h6
theorem not_okA {s T : ByteArray} (hT : T.data.toList = s.data.toList.drop (fromA s)) (h : T.size = 0 ∨ allD T = false) : ¬ okA s := by
  obtain ⟨_, h2, h3⟩ := body_ext hT
  intro hok
  rcases h with h | h
  · have := hok.1; omega
  · have : allD T = true := allD_true fun j hj => by
      rw [h3]
      exact hok.2 _ (by omega) (by omega)
    rw [this] at h
    cases h
theorem allD_digL {T : ByteArray} (h : allD T = true) : DigL T.data.toList := by
  intro c hc
  unfold allD at h
  rw [List.all_eq_true] at h
  have := h c hc
  unfold dgB at this
  simpa using this
/-- The text that is cut. -/
def trimT (T : ByteArray) : ByteArray := ⟨(Lib.trimLeftB T.data.toList 48).toArray⟩
theorem trimT_digs (T : ByteArray) : digs (trimT T) = digsL (Lib.trimLeftB T.data.toList 48) := by rw [digs_list]; rfl
theorem trimT_bt {T : ByteArray} (h : allD T = true) : ∀ j, j < (trimT T).size → 48 ≤ bt (trimT T) j ∧ bt (trimT T) j ≤ 57 := by
  intro j hj
  have hl : j < (Lib.trimLeftB T.data.toList 48).length := by simpa [trimT, ByteArray.size] using hj
  have := trim_dig (allD_digL h) _ (List.getElem_mem hl)
  unfold bt trimT
  simp only [List.getD_eq_getElem?_getD, List.getElem?_eq_getElem hl]
  simpa using this
theorem trimT_len (T : ByteArray) : (trimT T).size = (digs (trimT T)).length := (digs_len _).symm
theorem big576 {ds : List Nat} (ht : Top ds) (h : 576 < ds.length) : 1000000000 ^ 64 ≤ dval ds := by
  have h1 := ht.le (by intro e; rw [e] at h; simp at h)
  obtain ⟨n, hn⟩ : ∃ n, n = 64 := ⟨_, rfl⟩
  have hk : 9 * n ≤ ds.length - 1 := by omega
  rw [← hn]
  clear hn
  have h2 : 10 ^ (9 * n) ≤ 10 ^ (ds.length - 1) := Nat.pow_le_pow_right (by omega) hk
  rw [pow9] at h2
  exact Nat.le_trans h2 h1
theorem small576 {ds : List Nat} (hb : Db ds) (h : ds.length ≤ 576) : dval ds < 1000000000 ^ 64 := by
  have h1 := dval_lt hb
  obtain ⟨n, hn⟩ : ∃ n, n = 64 := ⟨_, rfl⟩
  have hk : ds.length ≤ 9 * n := by omega
  rw [← hn]
  clear hn
  have h2 : 10 ^ ds.length ≤ 10 ^ (9 * n) := Nat.pow_le_pow_right (by omega) hk
  rw [pow9] at h2
  exact Nat.lt_of_lt_of_le h1 h2
end Go.Proofs.YtbfcbicbeagjkaaDoor
namespace Go.Proofs.YtbfcbicbeagjkaaDoor
open Go.RowKit

def enN (c : Nat) : Bool := enB (c : Int)
/-- A datum of a word: kind, text, sign, limbs. -/
structure Dt where
  k : Nat
  t : List Nat
  n : Bool
  r : List Nat

/-- What num.Parse says of a text. -/
def ParR (s : ByteArray) (x : Bool × List Nat × Bool) : Prop :=
  (okA s ∧ x.2.2 = true ∧ Snd x.1 x.2.1 ∧ val x.2.1 = dval (bodyA s) ∧ (x.2.1 ≠ [] → x.1 = negA s)) ∨ (x.2.2 = false ∧ x.1 = false ∧ x.2.1 = [] ∧ (okA s → 1000000000 ^ 64 ≤ dval (bodyA s)))
open Classical in
/-- The number that a text is. -/
noncomputable def parA (s : ByteArray) : Bool × List Nat × Bool := if h : ∃ x, ParR s x then h.choose else (false, [], false)
theorem parA_eq {s : ByteArray} {n o : Bool} {r : List Nat} (h : ParR s (n, r, o)) : parA s = (n, r, o) := by
  have hx : ∃ x, ParR s x := ⟨_, h⟩
  unfold parA
  rw [dif_pos hx]
  have h2 := hx.choose_spec
  generalize hx.choose = y at *
  obtain ⟨a, b, c⟩ := y
  obtain ⟨rfl, rfl, rfl⟩ := parse_unique h2 h
  rfl

def digN (c : Nat) : Bool := decide (48 ≤ c ∧ c ≤ 57)
def sgnN (c : Nat) : Bool := decide (c = 43 ∨ c = 45)
/-- Does it begin like a number? -/
def numeA (bs : List Nat) : Bool := digN (limb bs 0) || (sgnN (limb bs 0) && digN (limb bs 1))
/-- Is it a symbol's text? -/
def symA (bs : List Nat) : Bool := decide (bs ≠ [] ∧ bs ≠ [46] ∧ bs.length ≤ 64 ∧ limb bs 0 ≠ 35) && !numeA bs && decide ((chars bs 0).2 = none) && (chars bs 0).1.all fun c => !enN c
def tTrue : List Nat := [35, 116]
def tTrue' : List Nat := [35, 116, 114, 117, 101]
def tFalse : List Nat := [35, 102]
def tFalse' : List Nat := [35, 102, 97, 108, 115, 101]
/-- What a word is by itself. -/
noncomputable def atmA (bs : List Nat) : Option Dt :=
  if bs = tTrue ∨ bs = tTrue' then some ⟨8, [], false, []⟩ else if bs = tFalse ∨ bs = tFalse' then some ⟨9, [], false, []⟩
  else if (parA (mkB bs)).2.2 then some ⟨7, [], (parA (mkB bs)).1, (parA (mkB bs)).2.1⟩ else if symA bs then some ⟨4, bs, false, []⟩ else none

/-- A word. -/
structure Wd where
  kind : Nat
  txt : List Nat
  d : Dt
  dat : Nat
  pl : Nat
def zD : Dt := ⟨0, [], false, []⟩
end Go.Proofs.YtbfcbicbeagjkaaDoor
namespace Go.Proofs.YtbfcbicbeagjkaaDoor
open Go.RowKit

/-- A datum's box that holds nothing yet. -/
def DB (W : World) (g : Nat) : Prop := W.heap[g]? = some (.cells #[.int .i64 0, .string ⟨#[]⟩, .bool false, .slice none 0 0, .slice none 0 0, .int .i64 0] 40 (0, 0))
theorem DB.lt {W : World} {g : Nat} (h : DB W g) : g < W.heap.size := (Array.getElem?_eq_some_iff.1 h).1
theorem DB.step {W W' : World} {g : Nat} (h : DB W g) (hb : Below W.heap.size W W') : DB W' g := (hb.block g h.lt).trans h
theorem DB.new (W : World) : DB (W.alloc (.cells #[.int .i64 0, .string ⟨#[]⟩, .bool false, .slice none 0 0, .slice none 0 0, .int .i64 0] 40)) W.heap.size := heap_alloc_new W _
structure DBF (W : World) (g : Nat) : Prop where
  c0 : W.cell? ⟨g, 0, none⟩ = some (.int .i64 0)
  c1 : W.cell? ⟨g, 1, none⟩ = some (.string ⟨#[]⟩)
  c2 : W.cell? ⟨g, 2, none⟩ = some (.bool false)
  c3 : W.cell? ⟨g, 3, none⟩ = some (.slice none 0 0)
  c4 : W.cell? ⟨g, 4, none⟩ = some (.slice none 0 0)
  c5 : W.cell? ⟨g, 5, none⟩ = some (.int .i64 0)
  f0 : W.frozen? ⟨g, 0, none⟩ = false
  f1 : W.frozen? ⟨g, 1, none⟩ = false
  f2 : W.frozen? ⟨g, 2, none⟩ = false
  f3 : W.frozen? ⟨g, 3, none⟩ = false
  f4 : W.frozen? ⟨g, 4, none⟩ = false
  f5 : W.frozen? ⟨g, 5, none⟩ = false
theorem DB.facts {W : World} {g : Nat} (h : DB W g) : DBF W g :=
  ⟨cell_heap h 0, cell_heap h 1, cell_heap h 2, cell_heap h 3, cell_heap h 4, cell_heap h 5, frozen_heap h 0, frozen_heap h 1, frozen_heap h 2, frozen_heap h 3, frozen_heap h 4, frozen_heap h 5⟩

theorem DB.noU {W : World} {g : Nat} (h : DB W g) : NoU W g := by
  refine NoU.of_cells h fun v hv x => ?_
  simp at hv
  rcases hv with rfl | rfl | rfl | rfl | rfl | rfl <;> simp

/-- A datum stored into its box. -/
theorem DB.fill {W : World} {g : Nat} (h : DB W g) (a0 a1 a2 a3 a4 a5 : Value) :
    ((((((W.setCell ⟨g, 0, none⟩ a0).setCell ⟨g, 1, none⟩ a1).setCell ⟨g, 2, none⟩ a2).setCell ⟨g, 3, none⟩ a3).setCell ⟨g, 4, none⟩ a4).setCell ⟨g, 5, none⟩ a5).heap[g]? = some (.cells #[a0, a1, a2, a3, a4, a5] 40 (0, 0)) ∧
    Ks g W ((((((W.setCell ⟨g, 0, none⟩ a0).setCell ⟨g, 1, none⟩ a1).setCell ⟨g, 2, none⟩ a2).setCell ⟨g, 3, none⟩ a3).setCell ⟨g, 4, none⟩ a4).setCell ⟨g, 5, none⟩ a5) := by
  refine ⟨?_, ((((((Ks.refl g W).set 0 _).set 1 _).set 2 _).set 3 _).set 4 _).set 5 _⟩
  unfold DB at h
  simp only [World.setCell, Array.getElem?_modify, if_true, h]
  rfl
end Go.Proofs.YtbfcbicbeagjkaaDoor
