/- x -/
import Derived.Test.YtbfcbicbeagjkaaGreatDoorAdd
import Derived.Lib.TrimByte
import Derived.Test.YtbfcbicbeagjkaaGreatDoorTkSc
import Derived.Test.YtbfcbicbeagjkaaGreatDoorUEncMath
import Derived.Test.YtbfcbicbeagjkaaGreatDoorMem
import Derived.Laws.AppendOwn
import Derived.Laws.AppendOwnNone
import Derived.Deep.MidRow
namespace Go.Proofs.YtbfcbicbeagjkaaGreatDoor
open Go.RowKit
theorem V_inj {f g : Nat → Nat} (hf : ∀ i, f i < 1000000000) (hg : ∀ i, g i < 1000000000) {n : Nat} (h : V f n = V g n) : ∀ i, i < n → f i = g i := by
 induction n with
 | zero => intro i hi; omega
 | succ n ih =>
  simp only [V] at h
  have a := V_lt hf n
  have b := V_lt hg n
  have e : f n = g n := by
   rcases Nat.lt_trichotomy (f n) (g n) with c | c | c
   . have : (f n + 1) * 1000000000 ^ n ≤ g n * 1000000000 ^ n := Nat.mul_le_mul_right _ c
     rw [Nat.add_mul, Nat.one_mul] at this
     omega
   . exact c
   . have : (g n + 1) * 1000000000 ^ n ≤ f n * 1000000000 ^ n := Nat.mul_le_mul_right _ c
     rw [Nat.add_mul, Nat.one_mul] at this
     omega
  rw [e] at h
  intro i hi
  by_cases e2 : i = n
  . rw [e2]; exact e
  . exact ih (by omega) i (by omega)
theorem list_limbs {xs ys : List Nat} (hl : xs.length = ys.length) (h : ∀ i, i < xs.length → limb xs i = limb ys i) : xs = ys := by
 apply List.ext_getElem hl
 intro i h1 h2
 have := h i h1
 rwa [limb_lt h1, limb_lt h2] at this
theorem snd_list {n1 n2 : Bool} {xs ys : List Nat} (hx : Snd n1 xs) (hy : Snd n2 ys) (h : val xs = val ys) : xs = ys := by
 have h1 := len_le_of_val hx hy (by omega)
 have h2 := len_le_of_val hy hx (by omega)
 refine list_limbs (by omega) (V_inj hx.2.1 hy.2.1 (n := xs.length) ?_)
 rw [val_eq (Nat.le_refl _), val_eq h1]
 exact h
end Go.Proofs.YtbfcbicbeagjkaaGreatDoor
namespace Go.Proofs.YtbfcbicbeagjkaaGreatDoor
open Go.RowKit
def fromA (s : ByteArray) : Nat := if 0 < s.size ∧ (bt s 0 = 43 ∨ bt s 0 = 45) then 1 else 0
def negA (s : ByteArray) : Bool := decide (bt s 0 = 45)
def bodyA (s : ByteArray) : List Nat := (List.range (s.size - fromA s)).map fun j => bt s (s.size - 1 - j) - 48
def okA (s : ByteArray) : Prop := fromA s < s.size ∧ ∀ j, fromA s ≤ j → j < s.size → 48 ≤ bt s j ∧ bt s j ≤ 57
theorem bodyA_len (s : ByteArray) : (bodyA s).length = s.size - fromA s := by simp [bodyA]
theorem bodyA_at {s : ByteArray} {p n : Nat} (h : p + (n + 1) = s.size) (hf : fromA s ≤ p) : limb (bodyA s) n = bt s p - 48 := by
 have hn : n < (bodyA s).length := by rw [bodyA_len]; omega
 rw [limb_lt hn]
 simp only [bodyA, List.getElem_map, List.getElem_range]
 rw [show s.size - 1 - n = p by omega]
theorem bodyA_db {s : ByteArray} (h : okA s) : Db (bodyA s) := by
 intro i
 by_cases hi : i < s.size - fromA s
 . rw [bodyA_at (p := s.size - 1 - i) (by omega) (by omega)]
   have := h.2 (s.size - 1 - i) (by omega) (by omega)
   omega
 . rw [limb_out (by rw [bodyA_len]; omega)]; omega
def PPost (s : ByteArray) (w : World) (e : Ending) (w' : World) : Prop :=
 ∃ v neg rs ok, e = .returned (.tuple #[v, .bool ok]) ∧ IntV w' v neg rs ∧ Below w.heap.size w w' ∧
  ((okA s ∧ ok = true ∧ Snd neg rs ∧ val rs = dval (bodyA s) ∧ (rs ≠ [] → neg = negA s)) ∨ (ok = false ∧ neg = false ∧ rs = [] ∧ (okA s → 1000000000 ^ 64 ≤ dval (bodyA s))))
theorem PPost.no {s : ByteArray} {w w' : World} {v : Value} (hv : IntV w' v false []) (hb : Below w.heap.size w w') (h : ¬ okA s) : PPost s w (.returned (.tuple #[v, .bool false])) w' :=
 ⟨v, false, [], false, rfl, hv, hb, .inr ⟨rfl, rfl, rfl, fun g => absurd g h⟩⟩
theorem parse_unique {s : ByteArray} {n1 n2 o1 o2 : Bool} {r1 r2 : List Nat}
 (h1 : (okA s ∧ o1 = true ∧ Snd n1 r1 ∧ val r1 = dval (bodyA s) ∧ (r1 ≠ [] → n1 = negA s)) ∨ (o1 = false ∧ n1 = false ∧ r1 = [] ∧ (okA s → 1000000000 ^ 64 ≤ dval (bodyA s))))
 (h2 : (okA s ∧ o2 = true ∧ Snd n2 r2 ∧ val r2 = dval (bodyA s) ∧ (r2 ≠ [] → n2 = negA s)) ∨ (o2 = false ∧ n2 = false ∧ r2 = [] ∧ (okA s → 1000000000 ^ 64 ≤ dval (bodyA s)))) :
 n1 = n2 ∧ r1 = r2 ∧ o1 = o2 := by
 have key : ∀ {n : Bool} {r : List Nat}, Snd n r → val r = dval (bodyA s) → ¬ 1000000000 ^ 64 ≤ dval (bodyA s) := by
  intro n r hs hv
  have h1 : val r < 1000000000 ^ 64 := Nat.lt_of_lt_of_le (val_lt hs.2.1) (Nat.pow_le_pow_right (by omega) hs.1)
  omega
 rcases h1 with ⟨a, rfl, b, c, d⟩ | ⟨rfl, rfl, rfl, a⟩
 . rcases h2 with ⟨_, rfl, f, g, h⟩ | ⟨_, _, _, e⟩
   . have hl := snd_list b f (by rw [c, g])
     subst hl
     refine ⟨?_, rfl, rfl⟩
     by_cases hr : r1 = []
     . rw [b.2.2.1 hr, f.2.2.1 hr]
     . rw [d hr, h hr]
   . exact absurd (e a) (key b c)
 . rcases h2 with ⟨e, _, f, g, _⟩ | ⟨rfl, rfl, rfl, _⟩
   . exact absurd (a e) (key f g)
   . exact ⟨rfl, rfl, rfl⟩
end Go.Proofs.YtbfcbicbeagjkaaGreatDoor
namespace Go.Proofs.YtbfcbicbeagjkaaGreatDoor
open Go.RowKit
def digsL (t : List UInt8) : List Nat := t.reverse.map fun c => c.toNat - 48
theorem digs_list (s : ByteArray) : digs s = digsL s.data.toList := by
 have hl : s.data.toList.length = s.size := by simp
 apply List.ext_getElem
 . rw [digs_len]; simp [digsL]
 . intro i h1 h2
   rw [digs_len] at h1
   simp only [digs, digsL, List.getElem_map, List.getElem_range, List.getElem_reverse]
   unfold bt
   have hk : s.size - 1 - i < s.data.toList.length := by omega
   rw [List.getD_eq_getElem?_getD, List.getElem?_eq_getElem hk]
   simp
def DigL (t : List UInt8) : Prop := ∀ c ∈ t, 48 ≤ c.toNat ∧ c.toNat ≤ 57
theorem digsL_cons (c : UInt8) (t : List UInt8) : digsL (c :: t) = digsL t ++ [c.toNat - 48] := by simp [digsL]
theorem trim_val (t : List UInt8) : dval (digsL (Lib.trimLeftB t 48)) = dval (digsL t) := by
 unfold Lib.trimLeftB
 induction t with
 | nil => rfl
 | cons c t ih =>
  by_cases h : c = 48
  . subst h
    rw [digsL_cons, dval_snoc]
    have : (List.dropWhile (fun x => x == 48) ((48 : UInt8) :: t)) = List.dropWhile (fun x => x == 48) t := by simp []
    rw [this, ih]
    simp
  . have : (List.dropWhile (fun x => x == 48) (c :: t)) = c :: t := by simp [h]
    rw [this]
theorem trim_dig {t : List UInt8} (h : DigL t) : DigL (Lib.trimLeftB t 48) := by
 unfold Lib.trimLeftB
 intro c hc
 exact h c ((List.dropWhile_sublist _).mem hc)
theorem trim_top {t : List UInt8} (h : DigL t) : Top (digsL (Lib.trimLeftB t 48)) := by
 have hd := trim_dig h
 have key : ∀ c u, Lib.trimLeftB t 48 = c :: u → c ≠ 48 := by
  unfold Lib.trimLeftB
  clear h hd
  induction t with
  | nil => intro c u h; simp at h
  | cons a t ih =>
   intro c u h
   by_cases ha : a = 48
   . subst ha
     rw [List.dropWhile_cons] at h
     simp at h
     exact ih c u h
   . rw [List.dropWhile_cons] at h
     simp [ha] at h
     rw [← h.1]; exact ha
 intro hne
 rcases hu : Lib.trimLeftB t 48 with _ | ⟨c, u⟩
 . rw [hu] at hne; simp [digsL] at hne
 . have hc := key c u hu
   have hr := hd c (by rw [hu]; simp)
   rw [digsL_cons]
   have hl : (digsL u ++ [c.toNat - 48]).length - 1 = (digsL u).length := by simp
   rw [hl, limb_snoc, if_neg (by omega), if_pos rfl]
   intro h0
   apply hc
   have : c.toNat = 48 := by omega
   exact UInt8.toNat_inj.1 this
theorem body_ext {s T : ByteArray} (hT : T.data.toList = s.data.toList.drop (fromA s)) : digs T = bodyA s ∧ T.size = s.size - fromA s ∧ ∀ j, bt T j = bt s (fromA s + j) := by
 have hl : s.data.toList.length = s.size := by simp
 have hb : ∀ j, bt T j = bt s (fromA s + j) := fun j => by unfold bt; rw [hT]; simp
 have hsz : T.size = s.size - fromA s := by
  have : T.data.toList.length = T.size := by simp
  rw [← this, hT]
  simp
 refine ⟨?_, hsz, hb⟩
 unfold digs bodyA
 rw [hsz]
 apply List.map_congr_left
 intro j hj
 simp only [List.mem_range] at hj
 rw [hb]
 congr 2
 omega
theorem okA_iff {s T : ByteArray} (hT : T.data.toList = s.data.toList.drop (fromA s)) (hne : 0 < T.size) (hd : allD T = true) : okA s := by
 obtain ⟨_, h2, h3⟩ := body_ext hT
 refine ⟨by omega, fun j h4 h5 => ?_⟩
 have := h3 (j - fromA s)
 rw [show fromA s + (j - fromA s) = j by omega] at this
 rw [← this]
 unfold allD at hd
 rw [List.all_eq_true] at hd
 have hl : j - fromA s < T.data.toList.length := by simp; omega
 have h6 := hd _ (List.getElem_mem hl)
 unfold dgB at h6
 unfold bt
 simp only [decide_eq_true_iff] at h6
 rw [List.getD_eq_getElem?_getD, List.getElem?_eq_getElem hl]
 exact h6
theorem not_okA {s T : ByteArray} (hT : T.data.toList = s.data.toList.drop (fromA s)) (h : T.size = 0 ∨ allD T = false) : ¬ okA s := by
 obtain ⟨_, h2, h3⟩ := body_ext hT
 intro hok
 rcases h with h | h
 . have := hok.1; omega
 . have : allD T = true := allD_true fun j hj => by
    rw [h3]
    exact hok.2 _ (by omega) (by omega)
   rw [this] at h
   cases h
theorem allD_digL {T : ByteArray} (h : allD T = true) : DigL T.data.toList := by
 intro c hc
 unfold allD at h
 rw [List.all_eq_true] at h
 have := h c hc
 unfold dgB at this
 simpa using this
def trimT (T : ByteArray) : ByteArray := ⟨(Lib.trimLeftB T.data.toList 48).toArray⟩
theorem trimT_digs (T : ByteArray) : digs (trimT T) = digsL (Lib.trimLeftB T.data.toList 48) := by rw [digs_list]; rfl
theorem trimT_bt {T : ByteArray} (h : allD T = true) : ∀ j, j < (trimT T).size → 48 ≤ bt (trimT T) j ∧ bt (trimT T) j ≤ 57 := by
 intro j hj
 have hl : j < (Lib.trimLeftB T.data.toList 48).length := by simpa [trimT, ByteArray.size] using hj
 have := trim_dig (allD_digL h) _ (List.getElem_mem hl)
 unfold bt trimT
 simp only [List.getD_eq_getElem?_getD, List.getElem?_eq_getElem hl]
 simpa using this
theorem trimT_len (T : ByteArray) : (trimT T).size = (digs (trimT T)).length := (digs_len _).symm
theorem big576 {ds : List Nat} (ht : Top ds) (h : 576 < ds.length) : 1000000000 ^ 64 ≤ dval ds := by
 have h1 := ht.le (by intro e; rw [e] at h; simp at h)
 obtain ⟨n, hn⟩ : ∃ n, n = 64 := ⟨_, rfl⟩
 have hk : 9 * n ≤ ds.length - 1 := by omega
 rw [← hn]
 clear hn
 have h2 : 10 ^ (9 * n) ≤ 10 ^ (ds.length - 1) := Nat.pow_le_pow_right (by omega) hk
 rw [pow9] at h2
 exact Nat.le_trans h2 h1
theorem small576 {ds : List Nat} (hb : Db ds) (h : ds.length ≤ 576) : dval ds < 1000000000 ^ 64 := by
 have h1 := dval_lt hb
 obtain ⟨n, hn⟩ : ∃ n, n = 64 := ⟨_, rfl⟩
 have hk : ds.length ≤ 9 * n := by omega
 rw [← hn]
 clear hn
 have h2 : 10 ^ ds.length ≤ 10 ^ (9 * n) := Nat.pow_le_pow_right (by omega) hk
 rw [pow9] at h2
 exact Nat.lt_of_lt_of_le h1 h2
end Go.Proofs.YtbfcbicbeagjkaaGreatDoor
namespace Go.Proofs.YtbfcbicbeagjkaaGreatDoor
open Go.RowKit
def enN (c : Nat) : Bool := enB (c : Int)
structure Dt where
 k : Nat
 t : List Nat
 n : Bool
 r : List Nat
def ParR (s : ByteArray) (x : Bool × List Nat × Bool) : Prop :=
 (okA s ∧ x.2.2 = true ∧ Snd x.1 x.2.1 ∧ val x.2.1 = dval (bodyA s) ∧ (x.2.1 ≠ [] → x.1 = negA s)) ∨ (x.2.2 = false ∧ x.1 = false ∧ x.2.1 = [] ∧ (okA s → 1000000000 ^ 64 ≤ dval (bodyA s)))
open Classical in
noncomputable def parA (s : ByteArray) : Bool × List Nat × Bool := if h : ∃ x, ParR s x then h.choose else (false, [], false)
theorem parA_eq {s : ByteArray} {n o : Bool} {r : List Nat} (h : ParR s (n, r, o)) : parA s = (n, r, o) := by
 have hx : ∃ x, ParR s x := ⟨_, h⟩
 unfold parA
 rw [dif_pos hx]
 have h2 := hx.choose_spec
 generalize hx.choose = y at *
 obtain ⟨a, b, c⟩ := y
 obtain ⟨rfl, rfl, rfl⟩ := parse_unique h2 h
 rfl
def digN (c : Nat) : Bool := decide (48 ≤ c ∧ c ≤ 57)
def sgnN (c : Nat) : Bool := decide (c = 43 ∨ c = 45)
def numeA (bs : List Nat) : Bool := digN (limb bs 0) || (sgnN (limb bs 0) && digN (limb bs 1))
def symA (bs : List Nat) : Bool := decide (bs ≠ [] ∧ bs ≠ [46] ∧ bs.length ≤ 64 ∧ limb bs 0 ≠ 35) && !numeA bs && decide ((chars bs 0).2 = none) && (chars bs 0).1.all fun c => !enN c
def tTrue : List Nat := [35, 116]
def tTrue' : List Nat := [35, 116, 114, 117, 101]
def tFalse : List Nat := [35, 102]
def tFalse' : List Nat := [35, 102, 97, 108, 115, 101]
noncomputable def atmA (bs : List Nat) : Option Dt :=
 if bs = tTrue ∨ bs = tTrue' then some ⟨8, [], false, []⟩ else if bs = tFalse ∨ bs = tFalse' then some ⟨9, [], false, []⟩
 else if (parA (mkB bs)).2.2 then some ⟨7, [], (parA (mkB bs)).1, (parA (mkB bs)).2.1⟩ else if symA bs then some ⟨4, bs, false, []⟩ else none
structure Wd where
 kind : Nat
 txt : List Nat
 d : Dt
 dat : Nat
 pl : Nat
def zD : Dt := ⟨0, [], false, []⟩
end Go.Proofs.YtbfcbicbeagjkaaGreatDoor
namespace Go.Proofs.YtbfcbicbeagjkaaGreatDoor
open Go.RowKit
def DB (W : World) (g : Nat) : Prop := W.heap[g]? = some (.cells #[.int .i64 0, .string ⟨#[]⟩, .bool false, .slice none 0 0, .slice none 0 0, .int .i64 0] 27 (0, 0))
theorem DB.lt {W : World} {g : Nat} (h : DB W g) : g < W.heap.size := (Array.getElem?_eq_some_iff.1 h).1
theorem DB.step {W W' : World} {g : Nat} (h : DB W g) (hb : Below W.heap.size W W') : DB W' g := (hb.block g h.lt).trans h
theorem DB.new (W : World) : DB (W.alloc (.cells #[.int .i64 0, .string ⟨#[]⟩, .bool false, .slice none 0 0, .slice none 0 0, .int .i64 0] 27)) W.heap.size := heap_alloc_new W _
structure DBF (W : World) (g : Nat) : Prop where
 c0 : W.cell? ⟨g, 0, none⟩ = some (.int .i64 0)
 c1 : W.cell? ⟨g, 1, none⟩ = some (.string ⟨#[]⟩)
 c2 : W.cell? ⟨g, 2, none⟩ = some (.bool false)
 c3 : W.cell? ⟨g, 3, none⟩ = some (.slice none 0 0)
 c4 : W.cell? ⟨g, 4, none⟩ = some (.slice none 0 0)
 c5 : W.cell? ⟨g, 5, none⟩ = some (.int .i64 0)
 f0 : W.frozen? ⟨g, 0, none⟩ = false
 f1 : W.frozen? ⟨g, 1, none⟩ = false
 f2 : W.frozen? ⟨g, 2, none⟩ = false
 f3 : W.frozen? ⟨g, 3, none⟩ = false
 f4 : W.frozen? ⟨g, 4, none⟩ = false
 f5 : W.frozen? ⟨g, 5, none⟩ = false
theorem DB.facts {W : World} {g : Nat} (h : DB W g) : DBF W g :=
 ⟨cell_heap h 0, cell_heap h 1, cell_heap h 2, cell_heap h 3, cell_heap h 4, cell_heap h 5, frozen_heap h 0, frozen_heap h 1, frozen_heap h 2, frozen_heap h 3, frozen_heap h 4, frozen_heap h 5⟩
theorem DB.noU {W : World} {g : Nat} (h : DB W g) : NoU W g := by
 refine NoU.of_cells h fun v hv x => ?_
 simp at hv
 rcases hv with rfl | rfl | rfl | rfl | rfl | rfl <;> simp
theorem DB.fill {W : World} {g : Nat} (h : DB W g) (a0 a1 a2 a3 a4 a5 : Value) :
 ((((((W.setCell ⟨g, 0, none⟩ a0).setCell ⟨g, 1, none⟩ a1).setCell ⟨g, 2, none⟩ a2).setCell ⟨g, 3, none⟩ a3).setCell ⟨g, 4, none⟩ a4).setCell ⟨g, 5, none⟩ a5).heap[g]? = some (.cells #[a0, a1, a2, a3, a4, a5] 27 (0, 0)) ∧
 Ks g W ((((((W.setCell ⟨g, 0, none⟩ a0).setCell ⟨g, 1, none⟩ a1).setCell ⟨g, 2, none⟩ a2).setCell ⟨g, 3, none⟩ a3).setCell ⟨g, 4, none⟩ a4).setCell ⟨g, 5, none⟩ a5) := by
 refine ⟨?_, ((((((Ks.refl g W).set 0 _).set 1 _).set 2 _).set 3 _).set 4 _).set 5 _⟩
 unfold DB at h
 simp only [World.setCell, Array.getElem?_modify, if_true, h]
 rfl
end Go.Proofs.YtbfcbicbeagjkaaGreatDoor
namespace Go.Proofs.YtbfcbicbeagjkaaGreatDoor
open Go.RowKit
inductive Dm where
 | mk (k : Int) (t : List Nat) (n : Bool) (r : List Nat) (l : List Dm) (a : Int)
def Dm.k : Dm → Int | .mk k _ _ _ _ _ => k
def Dm.t : Dm → List Nat | .mk _ t _ _ _ _ => t
def Dm.n : Dm → Bool | .mk _ _ n _ _ _ => n
def Dm.r : Dm → List Nat | .mk _ _ _ r _ _ => r
def Dm.l : Dm → List Dm | .mk _ _ _ _ l _ => l
def Dm.a : Dm → Int | .mk _ _ _ _ _ a => a
def Dm.sz : Dm → Nat
 | .mk _ _ _ _ l _ => 1 + (l.attach.map fun ⟨d, _⟩ => Dm.sz d).sum
theorem Dm.sz_eq (d : Dm) : d.sz = 1 + (d.l.map Dm.sz).sum := by
 cases d with
 | mk k t n r l a =>
  unfold Dm.sz
  show _ = 1 + (l.map Dm.sz).sum
  rw [List.attach_map_val (l := l) (f := Dm.sz)]
theorem Dm.sz_mem {d x : Dm} (h : x ∈ d.l) : x.sz < d.sz := by
 rw [Dm.sz_eq d]
 have key : ∀ l : List Dm, x ∈ l → x.sz ≤ (l.map Dm.sz).sum := by
  intro l
  induction l with
  | nil => intro h; cases h
  | cons y l ih =>
   intro h
   rw [List.map_cons, List.sum_cons]
   rcases List.mem_cons.1 h with rfl | h
   . omega
   . have := ih h; omega
 have := key _ h
 omega
inductive Lay (w : World) : Dm → List Value → Prop
 | mk {k : Int} {t : List Nat} {n : Bool} {r : List Nat} {l : List Dm} {a : Int} {lv av : Value} {us : List Value} (hby : By t) (hlt : t.length ≤ maxLen) (hlim : ∀ i, limb r i < 4294967296) (hr : Sl .u32 w lv r) (hrow : RowV w av l.length 6 us)
  (hin : ∀ (i : Nat) (h : i < l.length), Lay w (l[i]'h) ((us.drop (i * 6)).take 6)) : Lay w (.mk k t n r l a) [.int .i64 k, .string (mkB t), .bool n, lv, av, .int .i64 a]
theorem Lay.keep {w w' : World} (hb : Below w.heap.size w w') {d : Dm} {us : List Value} (h : Lay w d us) : Lay w' d us := by
 induction h with
 | mk hby hlt hlim hr hrow hin ih => exact .mk hby hlt hlim (hr.below hb) (hrow.below hb) ih
theorem Lay.len {w : World} {d : Dm} {us : List Value} (h : Lay w d us) : us.length = 6 := by cases h; rfl
theorem Lay.open' {w : World} {d : Dm} {us : List Value} (h : Lay w d us) : ∃ lv av vs, us = [.int .i64 d.k, .string (mkB d.t), .bool d.n, lv, av, .int .i64 d.a] ∧ By d.t ∧ d.t.length ≤ maxLen ∧ (∀ i, limb d.r i < 4294967296) ∧ Sl .u32 w lv d.r ∧ RowV w av d.l.length 6 vs ∧ ∀ (i : Nat) (h : i < d.l.length), Lay w (d.l[i]'h) ((vs.drop (i * 6)).take 6) := by
 cases h with
 | mk hby hlt hlim hr hrow hin => exact ⟨_, _, _, rfl, hby, hlt, hlim, hr, hrow, hin⟩
end Go.Proofs.YtbfcbicbeagjkaaGreatDoor
namespace Go.Proofs.YtbfcbicbeagjkaaGreatDoor
open Go.RowKit
theorem Keeps.of_ks {P : Nat → Prop} {g : Nat} {w w' : World} (h : Ks g w w') (hg : ¬ P g) : Keeps P w w' :=
 ⟨h.size, fun b hb hp => h.oth b hb fun e => hg (e ▸ hp)⟩
inductive LayP (P : Nat → Prop) (w : World) : Dm → List Value → Prop
 | mk {k : Int} {t : List Nat} {n : Bool} {r : List Nat} {l : List Dm} {a : Int} {lv av : Value} {us : List Value} (hby : By t) (hlt : t.length ≤ maxLen) (hlim : ∀ i, limb r i < 4294967296) (hr : Sl .u32 w lv r) (hrp : InP P r.length lv) (hrow : RowV w av l.length 6 us) (hap : InP P l.length av)
  (hin : ∀ (i : Nat) (h : i < l.length), LayP P w (l[i]'h) ((us.drop (i * 6)).take 6)) : LayP P w (.mk k t n r l a) [.int .i64 k, .string (mkB t), .bool n, lv, av, .int .i64 a]
theorem LayP.lay {P : Nat → Prop} {w : World} {d : Dm} {us : List Value} (h : LayP P w d us) : Lay w d us := by
 induction h with
 | mk hby hlt hlim hr hrp hrow hap hin ih => exact .mk hby hlt hlim hr hrow ih
theorem Lay.layP {w : World} {d : Dm} {us : List Value} (h : Lay w d us) : LayP (fun b => b < w.heap.size) w d us := by
 induction h with
 | mk hby hlt hlim hr hrow hin ih => exact .mk hby hlt hlim hr (fun b h1 h2 => hr.lt b h1 h2) hrow (fun b h1 h2 => hrow.lt b h1 h2) ih
theorem LayP.mono {P Q : Nat → Prop} {w : World} {d : Dm} {us : List Value} (h : LayP P w d us) (hq : ∀ b, b < w.heap.size → P b → Q b) : LayP Q w d us := by
 induction h with
 | mk hby hlt hlim hr hrp hrow hap hin ih => exact .mk hby hlt hlim hr (hrp.mono hr.lt hq) hrow (hap.mono hrow.lt hq) ih
theorem LayP.move {P : Nat → Prop} {w w' : World} (hk : Keeps P w w') {d : Dm} {us : List Value} (h : LayP P w d us) : LayP P w' d us := by
 induction h with
 | mk hby hlt hlim hr hrp hrow hap hin ih => exact .mk hby hlt hlim (hr.move hrp hk) hrp (hrow.move hap hk) hap ih
theorem LayP.len {P : Nat → Prop} {w : World} {d : Dm} {us : List Value} (h : LayP P w d us) : us.length = 6 := by cases h; rfl
inductive Sm (N : Nat) : Dm → Prop
 | mk {k : Int} {t : List Nat} {n : Bool} {r : List Nat} {l : List Dm} {a : Int} (ht : t.length ≤ N) (hr : r.length ≤ N) (hl : l.length ≤ N) (hin : ∀ (i : Nat) (h : i < l.length), Sm N (l[i]'h)) : Sm N (.mk k t n r l a)
theorem Sm.open' {N : Nat} {k : Int} {t : List Nat} {n : Bool} {r : List Nat} {l : List Dm} {a : Int} (h : Sm N (.mk k t n r l a)) : t.length ≤ N ∧ r.length ≤ N ∧ l.length ≤ N ∧ ∀ (i : Nat) (h : i < l.length), Sm N (l[i]'h) := by
 cases h with
 | mk ht hr hl hin => exact ⟨ht, hr, hl, hin⟩
structure DmRow (P : Nat → Prop) (w : World) (l : List Dm) (us : List Value) : Prop where
 len : us.length = l.length * 6
 each : ∀ (i : Nat) (h : i < l.length), LayP P w (l[i]'h) ((us.drop (i * 6)).take 6)
theorem DmRow.nil (P : Nat → Prop) (w : World) : DmRow P w [] [] := ⟨rfl, fun i h => by simp at h⟩
theorem DmRow.snoc {P : Nat → Prop} {w : World} {l : List Dm} {us : List Value} (h : DmRow P w l us) {d : Dm} {cs : List Value} (hd : LayP P w d cs) : DmRow P w (l ++ [d]) (us ++ cs) := by
 have hc := hd.len
 have hl := h.len
 refine ⟨by simp [hl, hc]; omega, fun i hi => ?_⟩
 simp only [List.length_append, List.length_singleton] at hi
 rcases Nat.lt_or_ge i l.length with hin | hin
 . have e1 : ((us ++ cs).drop (i * 6)).take 6 = (us.drop (i * 6)).take 6 := by
    rw [List.drop_append_of_le_length (by omega), List.take_append_of_le_length (by rw [List.length_drop]; omega)]
   have e2 : (l ++ [d])[i] = l[i]'(by omega) := List.getElem_append_left (by omega)
   rw [e1, e2]
   exact h.each i hin
 . obtain rfl : i = l.length := by omega
   have e1 : ((us ++ cs).drop (l.length * 6)).take 6 = cs := by
    rw [List.drop_append_of_le_length (by omega), List.drop_of_length_le (by omega), List.nil_append, List.take_of_length_le (by omega)]
   have e2 : (l ++ [d])[l.length]'(by simp) = d := by
    rw [List.getElem_append_right (by omega)]
    simp
   rw [e1, e2]
   exact hd
theorem DmRow.move {P : Nat → Prop} {w w' : World} (hk : Keeps P w w') {l : List Dm} {us : List Value} (h : DmRow P w l us) : DmRow P w' l us := ⟨h.len, fun i hi => (h.each i hi).move hk⟩
theorem DmRow.mono {P Q : Nat → Prop} {w : World} {l : List Dm} {us : List Value} (h : DmRow P w l us) (hq : ∀ b, b < w.heap.size → P b → Q b) : DmRow Q w l us := ⟨h.len, fun i hi => (h.each i hi).mono hq⟩
theorem LayP.row {P : Nat → Prop} {w : World} {k : Int} {t : List Nat} {n : Bool} {r : List Nat} {l : List Dm} {a : Int} {us : List Value} (h : LayP P w (.mk k t n r l a) us) :
 ∃ lv av vs, us = [.int .i64 k, .string (mkB t), .bool n, lv, av, .int .i64 a] ∧ By t ∧ t.length ≤ maxLen ∧ (∀ i, limb r i < 4294967296) ∧ Sl .u32 w lv r ∧ InP P r.length lv ∧ RowV w av l.length 6 vs ∧ InP P l.length av ∧ DmRow P w l vs := by
 cases h with
 | mk hby hlt hlim hr hrp hrow hap hin => exact ⟨_, _, _, rfl, hby, hlt, hlim, hr, hrp, hrow, hap, ⟨hrow.1, hin⟩⟩
theorem row_datum {w : World} {av : Value} {l : List Dm} {us : List Value} (hrow : RowV w av l.length 6 us) (hin : ∀ (i : Nat) (h : i < l.length), Lay w (l[i]'h) ((us.drop (i * 6)).take 6)) {i : Nat} (h : i < l.length) :
 ∃ b off cap v0 v1 v2 v3 v4 v5, av = .slice (some ⟨b, off, none⟩) l.length cap ∧ l.length ≤ cap ∧ b < w.heap.size ∧ Lay w (l[i]'h) [v0, v1, v2, v3, v4, v5] ∧ w.cell? ⟨b, off + i * 6, none⟩ = some v0 ∧ w.cell? ⟨b, off + i * 6 + 1, none⟩ = some v1 ∧ w.cell? ⟨b, off + i * 6 + 2, none⟩ = some v2 ∧
  w.cell? ⟨b, off + i * 6 + 3, none⟩ = some v3 ∧ w.cell? ⟨b, off + i * 6 + 4, none⟩ = some v4 ∧ w.cell? ⟨b, off + i * 6 + 5, none⟩ = some v5 := by
 obtain ⟨h1, _, ao, cap, h3, h4, h5⟩ := hrow
 have hl := hin i h
 have hlen := hl.len
 rcases h5 with ⟨h5, _⟩ | ⟨b, off, h5, h6, h7⟩
 . omega
 . have hg : ∀ j, j < 6 → ((us.drop (i * 6)).take 6)[j]? = us[i * 6 + j]? := fun j hj => by rw [List.getElem?_take, if_pos hj, List.getElem?_drop]
   generalize (us.drop (i * 6)).take 6 = es at *
   match es, hlen with
   | [v0, v1, v2, v3, v4, v5], _ =>
    subst h5
    have hc : ∀ j u, j < 6 → ([v0, v1, v2, v3, v4, v5] : List Value)[j]? = some u → w.cell? ⟨b, off + i * 6 + j, none⟩ = some u := fun j u hj hu => by
     rw [Nat.add_assoc]
     exact h7 _ _ (by rw [← hg j hj]; exact hu)
    exact ⟨b, off, cap, v0, v1, v2, v3, v4, v5, h3, h4, h6, hl, hc 0 _ (by omega) rfl, hc 1 _ (by omega) rfl, hc 2 _ (by omega) rfl, hc 3 _ (by omega) rfl, hc 4 _ (by omega) rfl, hc 5 _ (by omega) rfl⟩
end Go.Proofs.YtbfcbicbeagjkaaGreatDoor
