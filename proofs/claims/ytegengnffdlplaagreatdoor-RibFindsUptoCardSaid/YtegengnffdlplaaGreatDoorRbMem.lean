/- Ribs without memory: entries, what identifiers mean. No walk here. | Ribs in memory: New, Rib, Fresh, has; atomic counters. -/
import Derived.Test.YtegengnffdlplaaGreatDoorRbMap
import Derived.Test.YtegengnffdlplaaGreatDoorSxMath
import Derived.Test.YtegengnffdlplaaGreatDoorTkSc
import Derived.Laws.LoneSync
namespace Go.Proofs.YtegengnffdlplaaGreatDoor
open Go.RowKit

/-- The i-th byte of a mark. -/
def by8 (z : Int) (i : Nat) : Int := z / (256 ^ i : Int) % 256
theorem by8_range (z : Int) (i : Nat) : 0 ≤ by8 z i ∧ by8 z i < 256 := by unfold by8; omega
/-- Marks as bytes, eight each. -/
def wrtI (zs : List Int) : List Int := zs.flatMap fun z => (List.range 8).map (by8 z)
theorem wrtI_cons (z : Int) (zs : List Int) : wrtI (z :: zs) = [by8 z 0, by8 z 1, by8 z 2, by8 z 3, by8 z 4, by8 z 5, by8 z 6, by8 z 7] ++ wrtI zs := rfl
theorem wrtI_app (xs ys : List Int) : wrtI (xs ++ ys) = wrtI xs ++ wrtI ys := by unfold wrtI; rw [List.flatMap_append]
theorem wrtI_len (zs : List Int) : (wrtI zs).length = 8 * zs.length := by
  induction zs with
  | nil => rfl
  | cons z zs ih => rw [wrtI_cons, List.length_append, ih, List.length_cons]; simp; omega
theorem wrtI_range (zs : List Int) : ∀ c ∈ wrtI zs, 0 ≤ c ∧ c < 256 := by
  induction zs with
  | nil => intro c h; cases h
  | cons z zs ih =>
    intro c h
    rw [wrtI_cons, List.mem_append] at h
    rcases h with h | h
    · simp only [List.mem_cons, List.not_mem_nil, or_false] at h
      rcases h with rfl | rfl | rfl | rfl | rfl | rfl | rfl | rfl <;> exact by8_range _ _
    · exact ih c h
def Rg (zs : List Int) : Prop := ∀ z ∈ zs, -9223372036854775808 ≤ z ∧ z ≤ 9223372036854775807
theorem Rg.tail {zs : List Int} (h : Rg zs) : Rg zs.tail := fun z hz => h z (List.mem_of_mem_tail hz)
theorem by8_inj {z y : Int} (hz : -9223372036854775808 ≤ z ∧ z ≤ 9223372036854775807) (hy : -9223372036854775808 ≤ y ∧ y ≤ 9223372036854775807) (h : ∀ i, i < 8 → by8 z i = by8 y i) : z = y := by
  have h0 := h 0 (by omega)
  have h1 := h 1 (by omega)
  have h2 := h 2 (by omega)
  have h3 := h 3 (by omega)
  have h4 := h 4 (by omega)
  have h5 := h 5 (by omega)
  have h6 := h 6 (by omega)
  have h7 := h 7 (by omega)
  unfold by8 at h0 h1 h2 h3 h4 h5 h6 h7
  simp only [Int.reducePow, Int.ediv_one] at h0 h1 h2 h3 h4 h5 h6 h7
  omega
theorem wrtI_inj : ∀ {zs ys : List Int}, Rg zs → Rg ys → wrtI zs = wrtI ys → zs = ys
  | [], [], _, _, _ => rfl
  | [], y :: ys, _, _, h => by have := congrArg List.length h; rw [wrtI_len, wrtI_len] at this; simp at this
  | z :: zs, [], _, _, h => by have := congrArg List.length h; rw [wrtI_len, wrtI_len] at this; simp at this
  | z :: zs, y :: ys, hz, hy, h => by
    rw [wrtI_cons, wrtI_cons] at h
    obtain ⟨h1, h2⟩ := List.append_inj h rfl
    simp only [List.cons.injEq, and_true] at h1
    have e : z = y := by8_inj (hz z (by simp)) (hy y (by simp)) fun i hi => by
      match i, hi with
      | 0, _ => exact h1.1
      | 1, _ => exact h1.2.1
      | 2, _ => exact h1.2.2.1
      | 3, _ => exact h1.2.2.2.1
      | 4, _ => exact h1.2.2.2.2.1
      | 5, _ => exact h1.2.2.2.2.2.1
      | 6, _ => exact h1.2.2.2.2.2.2.1
      | 7, _ => exact h1.2.2.2.2.2.2.2
    rw [e, wrtI_inj (fun x hx => hz x (List.mem_cons_of_mem _ hx)) (fun x hx => hy x (List.mem_cons_of_mem _ hx)) h2]
/-- As a text. -/
def wrt (zs : List Int) : ByteArray := ⟨((wrtI zs).map fun c => c.toNat.toUInt8).toArray⟩
theorem wrt_size (zs : List Int) : (wrt zs).size = 8 * zs.length := by
  show ((wrtI zs).map _).toArray.size = _
  rw [List.size_toArray, List.length_map, wrtI_len]
theorem u8_inj {c d : Int} (hc : 0 ≤ c ∧ c < 256) (hd : 0 ≤ d ∧ d < 256) (h : c.toNat.toUInt8 = d.toNat.toUInt8) : c = d := by
  have h1 := congrArg UInt8.toNat h
  have h1 : c.toNat % 256 = d.toNat % 256 := by simpa using h1
  omega
theorem map_u8_inj : ∀ {xs ys : List Int}, (∀ c ∈ xs, 0 ≤ c ∧ c < 256) → (∀ c ∈ ys, 0 ≤ c ∧ c < 256) → (xs.map fun c => c.toNat.toUInt8) = ys.map (fun c => c.toNat.toUInt8) → xs = ys
  | [], [], _, _, _ => rfl
  | [], y :: ys, _, _, h => by simp at h
  | x :: xs, [], _, _, h => by simp at h
  | x :: xs, y :: ys, hx, hy, h => by
    rw [List.map_cons, List.map_cons, List.cons.injEq] at h
    rw [u8_inj (hx x (by simp)) (hy y (by simp)) h.1, map_u8_inj (fun c hc => hx c (List.mem_cons_of_mem _ hc)) (fun c hc => hy c (List.mem_cons_of_mem _ hc)) h.2]
theorem wrt_inj {zs ys : List Int} (hz : Rg zs) (hy : Rg ys) (h : wrt zs = wrt ys) : zs = ys := by
  unfold wrt at h
  injection h with h
  have h := congrArg Array.toList h
  simp only at h
  exact wrtI_inj hz hy (map_u8_inj (wrtI_range zs) (wrtI_range ys) h)
/-- Without the first mark. -/
theorem wrt_tail {z : Int} {zs : List Int} : (wrt (z :: zs)).data.toList.drop 8 = (wrt zs).data.toList := by
  unfold wrt
  rw [wrtI_cons]
  rfl

/-- An entry of a rib, as the document has it. -/
structure En where
  rib : Int
  nm : ByteArray
  ms : List Int
  lb : Int
/-- The label of a name with marks in a rib; 0: there is none. -/
def atL : List En → Int → ByteArray → List Int → Int
  | [], _, _, _ => 0
  | e :: es, b, n, m => if e.rib = b ∧ e.nm = n ∧ e.ms = m then e.lb else atL es b n m
theorem atL_snoc (es : List En) (e : En) (b : Int) (n : ByteArray) (m : List Int) : atL (es ++ [e]) b n m = if (∃ x ∈ es, x.rib = b ∧ x.nm = n ∧ x.ms = m) then atL es b n m else if e.rib = b ∧ e.nm = n ∧ e.ms = m then e.lb else 0 := by
  induction es with
  | nil => simp [atL]
  | cons x es ih =>
    rw [List.cons_append]
    unfold atL
    by_cases h : x.rib = b ∧ x.nm = n ∧ x.ms = m
    · rw [if_pos h, if_pos ⟨x, by simp, h⟩, if_pos h]
    · rw [if_neg h, ih, if_neg h]
      have : (∃ y ∈ x :: es, y.rib = b ∧ y.nm = n ∧ y.ms = m) ↔ ∃ y ∈ es, y.rib = b ∧ y.nm = n ∧ y.ms = m := by
        constructor
        · rintro ⟨y, hy, hh⟩
          rcases List.mem_cons.1 hy with rfl | hy
          · exact absurd hh h
          · exact ⟨y, hy, hh⟩
        · rintro ⟨y, hy, hh⟩
          exact ⟨y, List.mem_cons_of_mem _ hy, hh⟩
      simp only [this]
theorem atL_none {es : List En} {b : Int} {n : ByteArray} {m : List Int} (h : ∀ x ∈ es, ¬ (x.rib = b ∧ x.nm = n ∧ x.ms = m)) : atL es b n m = 0 := by
  induction es with
  | nil => rfl
  | cons x es ih =>
    unfold atL
    rw [if_neg (h x (by simp)), ih fun y hy => h y (List.mem_cons_of_mem _ hy)]
/-- Entries and the map of them say the same. -/
structure EnM (es : List En) (tk : Ek → Option Int) : Prop where
  pos : ∀ x ∈ es, 1 ≤ x.lb ∧ Rg x.ms
  say : ∀ b n m, Rg m → (tk (b, n, wrt m)).getD 0 = atL es b n m
  sure : ∀ p c, tk p = some c → 1 ≤ c
theorem EnM.nil : EnM [] fun _ => none := ⟨by simp, fun _ _ _ _ => rfl, fun _ _ h => by cases h⟩
theorem atL_pos {es : List En} (h : ∀ x ∈ es, 1 ≤ x.lb ∧ Rg x.ms) (b : Int) (n : ByteArray) (m : List Int) : (atL es b n m = 0 ∧ ∀ x ∈ es, ¬ (x.rib = b ∧ x.nm = n ∧ x.ms = m)) ∨ (1 ≤ atL es b n m ∧ ∃ x ∈ es, x.rib = b ∧ x.nm = n ∧ x.ms = m) := by
  induction es with
  | nil => exact .inl ⟨rfl, by simp⟩
  | cons x es ih =>
    unfold atL
    by_cases hx : x.rib = b ∧ x.nm = n ∧ x.ms = m
    · rw [if_pos hx]
      exact .inr ⟨(h x (by simp)).1, x, by simp, hx⟩
    · rw [if_neg hx]
      rcases ih fun y hy => h y (List.mem_cons_of_mem _ hy) with ⟨h1, h2⟩ | ⟨h1, y, hy, h2⟩
      · refine .inl ⟨h1, fun y hy => ?_⟩
        rcases List.mem_cons.1 hy with rfl | hy
        · exact hx
        · exact h2 y hy
      · exact .inr ⟨h1, y, List.mem_cons_of_mem _ hy, h2⟩
theorem EnM.put {es : List En} {tk : Ek → Option Int} (h : EnM es tk) {e : En} (he : 1 ≤ e.lb) (hr : Rg e.ms) (h0 : atL es e.rib e.nm e.ms = 0) : EnM (es ++ [e]) (putE tk (e.rib, e.nm, wrt e.ms) e.lb) := by
  have hnone : ∀ x ∈ es, ¬ (x.rib = e.rib ∧ x.nm = e.nm ∧ x.ms = e.ms) := by
    rcases atL_pos h.pos e.rib e.nm e.ms with ⟨_, h2⟩ | ⟨h1, _⟩
    · exact h2
    · omega
  refine ⟨fun x hx => ?_, fun b n m hm => ?_, fun p c hp => ?_⟩
  · rcases List.mem_append.1 hx with hx | hx
    · exact h.pos x hx
    · rw [List.mem_singleton.1 hx]; exact ⟨he, hr⟩
  · rw [atL_snoc]
    unfold putE
    by_cases hq : e.rib = b ∧ e.nm = n ∧ e.ms = m
    · obtain ⟨rfl, rfl, rfl⟩ := hq
      rw [if_pos rfl, if_neg (fun ⟨x, hx, hh⟩ => hnone x hx hh), if_pos ⟨rfl, rfl, rfl⟩]
      rfl
    · have hne : ((b, n, wrt m) : Ek) ≠ (e.rib, e.nm, wrt e.ms) := fun e2 => by
        injection e2 with e3 e4
        injection e4 with e4 e5
        exact hq ⟨e3.symm, e4.symm, (wrt_inj hm hr e5).symm⟩
      rw [if_neg hne, h.say b n m hm, if_neg hq]
      split
      · rfl
      · next hno =>
        exact atL_none fun x hx hh => hno ⟨x, hx, hh⟩
  · unfold putE at hp
    split at hp
    · injection hp with hp; omega
    · exact h.sure p c hp
/-- To seek: what is found by going through substitutions with marks. -/
def fndL (at' : Int → List Int → Int) : List Int → List Int → Int
  | [], _ => 0
  | b :: ss, m => if b = 0 then fndL at' ss m.tail else if at' b m ≠ 0 then at' b m else fndL at' ss m
end Go.Proofs.YtegengnffdlplaaGreatDoor
namespace Go.Proofs.YtegengnffdlplaaGreatDoor
open Go.RowKit

theorem wrap_small {z : Int} (h : 0 ≤ z ∧ z ≤ 1000000000001) : IntKind.i64.wrap z = z := by
  have e : z % 2 ^ 64 = z := by omega
  simp only [IntKind.wrap, IntKind.signed, IntKind.bits, e]
  rw [if_neg (by simp; omega)]
theorem add64 (w : World) (g o : Nat) (x : Int) (hx : 0 ≤ x ∧ x ≤ 1000000000000) (c : w.cell? ⟨g, o, none⟩ = some (.int .i64 x)) (z : w.frozen? ⟨g, o, none⟩ = false) :
    (callFunc 42 #[.pointer (some ⟨g, o, none⟩), .int .i64 1]).run Tryz.prog w = .ok (.value (.int .i64 (x + 1))) (w.setCell ⟨g, o, none⟩ (.int .i64 (x + 1))) :=
  run_call_add Tryz.func42 (by kernel_rfl) (by kernel_rfl) (by kernel_rfl) .i64 (by kernel_rfl) c z (by go_simp; show IntKind.i64.wrap (x + 1) = x + 1; exact wrap_small (by omega))
theorem load64 (w : World) (g o : Nat) (x : Int) (c : w.cell? ⟨g, o, none⟩ = some (.int .i64 x)) :
    (callFunc 44 #[.pointer (some ⟨g, o, none⟩)]).run Tryz.prog w = .ok (.value (.int .i64 x)) w :=
  run_call_load Tryz.func44 (by kernel_rfl) (by kernel_rfl) (by kernel_rfl) .i64 (by kernel_rfl) c
set_option maxRecDepth 100000 in
theorem aadd_any (w : World) (g o : Nat) (x : Int) (hx : 0 ≤ x ∧ x ≤ 1000000000000) (c : w.cell? ⟨g, o, none⟩ = some (.int .i64 x)) (z : w.frozen? ⟨g, o, none⟩ = false) :
    Calls Tryz.prog 29 #[.pointer (some ⟨g, o, none⟩), .int .i64 1] w fun e w' => e = .returned (.int .i64 (x + 1)) ∧ w.setCell ⟨g, o, none⟩ (.int .i64 (x + 1)) = w' := by
  have hd := add64 w g o x hx c z
  clear c z
  go_enter Tryz.func29, Tryz.ntmps29
  go_wp2_with fail
  go_ret
  exact ⟨rfl, rfl⟩
set_option maxRecDepth 100000 in
theorem aload_any (w : World) (g o : Nat) (x : Int) (c : w.cell? ⟨g, o, none⟩ = some (.int .i64 x)) :
    Calls Tryz.prog 31 #[.pointer (some ⟨g, o, none⟩)] w fun e w' => e = .returned (.int .i64 x) ∧ w = w' := by
  have hd := load64 w g o x c
  clear c
  go_enter Tryz.func31, Tryz.ntmps31
  go_wp2_with fail
  go_ret
  exact ⟨rfl, rfl⟩
/-- Ribs in block g: how many there are, the last number given, and what stands in them. -/
structure RbW (w : World) (g : Nat) (ob : Option Nat) (R G : Nat) (tk : Ek → Option Int) : Prop where
  box : w.heap[g]? = some (.cells #[.int .i64 (R : Nat), .int .i64 (G : Nat), .map ob] 62 (0, 0))
  non : ob = none → ∀ p, tk p = none
  map : ∀ b, ob = some b → b ≠ g ∧ MapE w b tk
theorem RbW.lt {w : World} {g : Nat} {ob : Option Nat} {R G : Nat} {tk : Ek → Option Int} (h : RbW w g ob R G tk) : g < w.heap.size := (Array.getElem?_eq_some_iff.1 h.box).1
theorem RbW.mlt {w : World} {g : Nat} {ob : Option Nat} {R G : Nat} {tk : Ek → Option Int} (h : RbW w g ob R G tk) {b : Nat} (hb : ob = some b) : b < w.heap.size := by
  obtain ⟨es, c, h1, _⟩ := (h.map b hb).2
  exact (Array.getElem?_eq_some_iff.1 h1).1
theorem RbW.keep {w w' : World} {g : Nat} {ob : Option Nat} {R G : Nat} {tk : Ek → Option Int} (h : RbW w g ob R G tk) {P : Nat → Prop} (hk : Keeps P w w') (hg : P g) (hm : ∀ b, ob = some b → P b) : RbW w' g ob R G tk :=
  ⟨(hk.2 g h.lt hg).trans h.box, h.non, fun b hb => ⟨(h.map b hb).1, (h.map b hb).2.move (hk.2 b (h.mlt hb) (hm b hb))⟩⟩
theorem RbW.below {w w' : World} {g : Nat} {ob : Option Nat} {R G : Nat} {tk : Ek → Option Int} (h : RbW w g ob R G tk) (hb : Below w.heap.size w w') : RbW w' g ob R G tk := h.keep (Keeps.of_below (P := fun _ => True) hb) trivial fun _ _ => trivial
theorem RbW.set0 {w : World} {g : Nat} {ob : Option Nat} {R G : Nat} {tk : Ek → Option Int} (h : RbW w g ob R G tk) (R' : Nat) {u : Int} (hu : u = (R' : Nat)) : RbW (w.setCell ⟨g, 0, none⟩ (.int .i64 u)) g ob R' G tk := by
  subst hu
  exact ⟨(rowSet h.box 0 _).trans (by simp), h.non, fun b hb => ⟨(h.map b hb).1, (h.map b hb).2.move (Below.heap_setCell _ _ _ _ (h.map b hb).1)⟩⟩
/-- Nothing has changed but these ribs. -/
structure RK (g : Nat) (ob : Option Nat) (w w' : World) : Prop where
  kee : Keeps (fun b => b ≠ g ∧ ob ≠ some b) w w'
  bel : ∀ B, B ≤ g → (∀ b, ob = some b → B ≤ b) → B ≤ w.heap.size → Below B w w'
theorem RK.of_below {g : Nat} {ob : Option Nat} {w w' : World} (h : Below w.heap.size w w') : RK g ob w w' := ⟨Keeps.of_below h, fun _ _ _ h3 => h.mono h3⟩
theorem RK.size {g : Nat} {ob : Option Nat} {w w' : World} (h : RK g ob w w') : w.heap.size ≤ w'.heap.size := h.kee.1
theorem RK.trans {g : Nat} {ob ob' : Option Nat} {w w' w'' : World} (h : RK g ob w w') (h' : RK g ob' w' w'') (ho : ∀ b, ob' = some b → ob = some b ∨ w.heap.size ≤ b) : RK g ob w w'' :=
  ⟨⟨Nat.le_trans h.kee.1 h'.kee.1, fun b hb hp => (h'.kee.2 b (Nat.lt_of_lt_of_le hb h.kee.1) ⟨hp.1, fun e => by rcases ho b e with h1 | h1; exact hp.2 h1; omega⟩).trans (h.kee.2 b hb hp)⟩,
   fun B h1 h2 h3 => (h.bel B h1 h2 h3).trans (h'.bel B h1 (fun b hb => by rcases ho b hb with h4 | h4; exact h2 b h4; omega) (Nat.le_trans h3 h.kee.1))⟩
theorem RK.set {g : Nat} {ob : Option Nat} (w : World) (o : Nat) (u : Value) : RK g ob w (w.setCell ⟨g, o, none⟩ u) := ⟨(Keeps.refl _ w).set (by simp) u, fun B h1 _ _ => (Below.refl B w).setCell (p := ⟨g, o, none⟩) h1 u⟩

set_option maxRecDepth 100000 in
theorem new_any (w : World) : Calls Tryz.prog 17 #[] w fun e w' => e = .returned (.pointer (some ⟨w.heap.size, 0, none⟩)) ∧ RbW w' w.heap.size none 0 0 (fun _ => none) ∧ Below w.heap.size w w' := by
  have hn := heap_alloc_new w (.cells #[.int .i64 0, .int .i64 0, .map none] 62)
  have hb := below1 w (.cells #[.int .i64 0, .int .i64 0, .map none] 62)
  go_enter Tryz.func17, Tryz.ntmps17
  go_wp2_with fail
  go_ret
  exact ⟨rfl, ⟨hn, fun _ _ => rfl, fun b h => by cases h⟩, hb⟩
set_option maxRecDepth 100000 in
theorem rrib_any (w : World) (g : Nat) (ob : Option Nat) (R G : Nat) (tk : Ek → Option Int) (h : RbW w g ob R G tk) (hR : R ≤ 1000000) :
    Calls Tryz.prog 19 #[.pointer (some ⟨g, 0, none⟩)] w fun e w' => e = .returned (.int .i64 ((R + 1 : Nat) : Int)) ∧ RbW w' g ob (R + 1) G tk ∧ RK g ob w w' := by
  have H := Lib.hid h
  have HC := Lib.hid (aadd_any w g 0 (R : Nat) (by omega) (cell_heap h.box 0) (frozen_heap h.box 0))
  clear h
  go_enter Tryz.func19, Tryz.ntmps19
  go_wp2_with fail
  refine HC.out.mono ?_
  rintro e w' ⟨rfl, rfl⟩
  go_wp2_with fail
  go_ret
  exact ⟨rfl, H.out.set0 (R + 1) (by omega), RK.set _ _ _⟩
set_option maxRecDepth 100000 in
theorem has_any (w : World) (g : Nat) (ob : Option Nat) (R G : Nat) (tk : Ek → Option Int) (h : RbW w g ob R G tk) (b : Int) :
    Calls Tryz.prog 33 #[.pointer (some ⟨g, 0, none⟩), .int .i64 b] w fun e w' => e = .returned (.bool (decide (1 ≤ b ∧ b ≤ (R : Nat)))) ∧ w = w' := by
  have HC := Lib.hid (aload_any w g 0 (R : Nat) (cell_heap h.box 0))
  clear h
  by_cases h1 : 1 ≤ b
  · have hd : decide ((1 : Int) ≤ b) = true := by simpa using h1
    have H1 := Lib.hid h1
    clear h1
    go_enter Tryz.func33, Tryz.ntmps33
    go_wp2_with fail
    refine HC.out.mono ?_
    rintro e w' ⟨rfl, rfl⟩
    go_wp2_with fail
    go_ret
    exact ⟨ret_bl (by simp [H1.out]), rfl⟩
  · have hd : decide ((1 : Int) ≤ b) = false := by simpa using h1
    have H1 := Lib.hid h1
    clear h1
    go_enter Tryz.func33, Tryz.ntmps33
    go_wp2_with fail
    go_ret
    exact ⟨ret_bl (by simp [H1.out]), rfl⟩
end Go.Proofs.YtegengnffdlplaaGreatDoor
