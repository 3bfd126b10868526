/- ref.trim | ref.Digits -/
import Derived.Test.YtiekhjgfnmochaaDoorTrim
import Derived.Test.YtiekhjgfnmochaaDoorDigMath
namespace Go.Proofs.YtiekhjgfnmochaaDoor
open Go.RowKit

/-- What trim leaves. -/
def RTrimPost (v : Value) (xs : List Nat) (w : World) (e : Ending) (w' : World) : Prop :=
  ∃ v' n, e = .returned v' ∧ n ≤ xs.length ∧ (n = 0 ∨ limb xs (n - 1) ≠ 0) ∧ (∀ i, n ≤ i → limb xs i = 0) ∧ (∀ w2, Sl .u8 w2 v xs → Sl .u8 w2 v' (xs.take n)) ∧ w = w'

set_option maxRecDepth 100000 in
set_option maxHeartbeats 1000000 in
theorem rtrim_any (v : Value) (xs : List Nat) (w : World) (hs : Sl .u8 w v xs) (hx : ∀ i, limb xs i < 256) :
    Calls Tryd.prog 57 #[v] w (RTrimPost v xs w) := by
  obtain ⟨hm, ao, cap, rfl, hcap, h⟩ := hs
  unfold maxLen at hm
  have HX := Lib.hid hx; clear hx
  rcases h with ⟨rfl, _⟩ | ⟨b, off, rfl, hb, hcell⟩
  · go_enter Tryd.func57, Tryd.ntmps57
    go_wp2
    refine wp_loop_rounds 1 ?_
    rw [rounds_succ]
    go_wp2
    go_ret
    exact ⟨_, 0, rfl, by omega, .inl rfl, fun i _ => limb_out (by simp), fun _ h => h, rfl⟩
  · have HC := Lib.hid hcell; clear hcell
    go_enter Tryd.func57, Tryd.ntmps57
    go_wp2
    go_loop [3] (fun i => ∃ n : Nat, n ≤ xs.length ∧ i = .int .i64 n ∧ ∀ j, n ≤ j → limb xs j = 0) (fun i => (intOf i).toNat)
    case atStart => exact ⟨xs.length, Nat.le_refl _, rfl, fun j hj => limb_out hj⟩
    case round =>
      obtain ⟨n, hn, rfl, hz⟩ := hrel
      have HZ := Lib.hid hz; clear hz
      rcases n with _ | m
      · go_wp2
        go_ret
        exact ⟨_, 0, rfl, by omega, .inl rfl, HZ.out, fun _ h => h.take (by omega), rfl⟩
      · have hcm := HC.out m (by omega)
        have hxm := HX.out m
        rcases Nat.eq_zero_or_pos (limb xs m) with h0 | hp
        · have h1 : limb xs m ≤ 0 := by omega
          have H0 := Lib.hid h0; clear h0
          go_wp2
          go_round
          case rel => exact ⟨m, by omega, by first | rfl | go_num, fun j hj => by
            by_cases e : j = m
            · subst e; exact H0.out
            · exact HZ.out j (by omega)⟩
          case measure => simp only [intOf]; omega
        · go_wp2
          go_ret
          exact ⟨_, m + 1, rfl, by omega, .inr (by rw [Nat.add_sub_cancel]; omega), HZ.out, fun _ h => h.take (by omega), rfl⟩
end Go.Proofs.YtiekhjgfnmochaaDoor
namespace Go.Proofs.YtiekhjgfnmochaaDoor
open Go.RowKit

theorem infoB : (Tryd.prog.info? 5).map (fun i => (i.zero, i.size, i.bytes)) = some (some (.int .u8 0), 1, 1) := by kernel_rfl

/-- What trim of digits comes to. -/
theorem dtrim (v : Value) (ds : List Nat) (N : Nat) (w : World) (hs : Sl .u8 w v ds) (hd : Db ds) (hv : dval ds = N) :
    Calls Tryd.prog 57 #[v] w (fun e w' => DigPost N w e w') := by
  refine (rtrim_any v ds w hs hd.wide).mono ?_
  rintro e w' ⟨v', n, rfl, hn, ht, hz, hsl, rfl⟩
  exact ⟨v', ds.take n, rfl, hsl w hs, hd.take n, Top.take hn ht, by rw [dval_take hn hz, hv], Below.refl _ w⟩

set_option maxRecDepth 100000 in
set_option maxHeartbeats 2000000 in
theorem digits_any (neg : Bool) (sv : Value) (xs : List Nat) (w : World) (hs : Sl .u32 w sv xs) (hx : Lb xs) (hxl : xs.length < 1000000) :
    Calls Tryd.prog 39 #[.agg #[.bool neg, sv]] w (DigPost (val xs) w) := by
  obtain ⟨i0, hi, hz0, hz1, hz2⟩ := info_parts infoB
  have HS := Lib.hid hs
  obtain ⟨hm, ao, cap, rfl, hcap, h⟩ := hs
  unfold maxLen at hm
  have HX := Lib.hid hx; clear hx
  have hr0 : (w.alloc (.cells #[.bool neg, .slice ao xs.length cap] 24)).heap[w.heap.size]? = some (.cells #[.bool neg, .slice ao xs.length cap] 24 (0, 0)) := heap_alloc_new w _
  have HC : Hid (∀ j, j < xs.length → ∃ b off, ao = some ⟨b, off, none⟩ ∧ b < w.heap.size ∧ w.cell? ⟨b, off + j, none⟩ = some (.int .u32 ((limb xs j : Nat) : Int))) := Lib.hid fun j hj => by
    rcases h with ⟨h, _⟩ | ⟨b, off, h1, h2, h3⟩
    · rw [h] at hj; simp at hj
    · exact ⟨b, off, h1, h2, h3 j hj⟩
  clear h
  go_enter Tryd.func39, Tryd.ntmps39
  go_wp2_with fail
  go_loopw [3, 4] (fun v i wr => ∃ ds k, k ≤ xs.length ∧ i = .int .i64 (k : Nat) ∧ DigOut xs ds k ∧ wr.ownsRow (w.heap.size + 1) 5 1 v ds.length (ds.map fun (x : Nat) => Value.int .u8 (x : Int)) ∧ wr.heap[w.heap.size]? = some (.cells #[.bool neg, .slice ao xs.length cap] 24 (0, 0)) ∧ Below w.heap.size w wr ∧ w.heap.size < wr.heap.size) (fun _ i _ => xs.length - (intOf i).toNat)
  case atStart => exact ⟨[], 0, by omega, rfl, DigOut.start xs, World.ownsRow_nil _ _ _ _, hr0, below1 w _, by simp⟩
  case round =>
    clear hr0
    obtain ⟨ds0, k, hk, rfl, hout, hown, hr, hbel, hlt⟩ := hrel
    by_cases hkn : k < xs.length
    · have hxk := HX.out k
      have HI0 := Lib.hid (hout.inn hxk); clear hout
      obtain ⟨b, off, hao, hb, hc⟩ := HC.out k hkn
      subst hao
      have hck : wr.cell? ⟨b, off + k, none⟩ = some (.int .u32 ((limb xs k : Nat) : Int)) := by rw [hbel.cell (p := ⟨b, off + k, none⟩) hb]; exact hc
      have r1 := cell_heap hr 1
      go_wp2_with fail
      clear hck r1
      go_loopw [3, 5, 6] (fun v l j wr => ∃ ds lv jj, jj ≤ 9 ∧ j = .int .i64 (jj : Nat) ∧ l = .int .u32 (lv : Nat) ∧ DigIn xs ds k lv jj ∧ wr.ownsRow (w.heap.size + 1) 5 1 v ds.length (ds.map fun (x : Nat) => Value.int .u8 (x : Int)) ∧ wr.heap[w.heap.size]? = some (.cells #[.bool neg, .slice (some ⟨b, off, none⟩) xs.length cap] 24 (0, 0)) ∧ Below w.heap.size w wr ∧ w.heap.size < wr.heap.size) (fun _ _ j _ => 9 - (intOf j).toNat)
      case atStart => exact ⟨ds0, limb xs k, 0, by omega, rfl, rfl, HI0.out, hown, hr, hbel, hlt⟩
      case round =>
        clear hown hr hbel hlt
        obtain ⟨ds, l, j, hj, rfl, rfl, hin, hown, hr, hbel, hlt⟩ := hrel
        by_cases hj9 : j < 9
        · have hl := hin.lt
          have hlen := hin.len
          have HI := Lib.hid hin.step; clear hin
          have HR := Lib.hid hr; clear hr
          have hn : ds.length < 100000000 := by omega
          clear hlen
          go_wp2_with (at_builtin; go_loud (refine wpList_append_own _ rfl _ _ 44 rfl (w.heap.size + 1) 5 i0 (.int .u8 0) 1 1 Tryd.underlying44 hi hz0 hz1 hz2 rfl (by decide) _ ds.length (ds.map fun (x : Nat) => Value.int .u8 (x : Int)) rfl (hown.alloc _) ⟨wr.heap.size, 0, none⟩ 1 1 [.int .u8 ((l : Int) % 10)] rfl (by simp) (cell_one_new _ _ _) (by intro u hu; rw [List.mem_singleton] at hu; subst hu; rfl) (by unfold maxLen; omega) (by omega) (by simp; omega) ?_); intro v' w1 hown1 hgrow hnil; clear hnil)
          go_roundw
          case rel =>
            have e1 : (List.map (fun (x : Nat) => Value.int .u8 (x : Int)) ds ++ [.int .u8 ((l : Int) % 10)]) = (ds ++ [l % 10]).map fun (x : Nat) => Value.int .u8 (x : Int) := by simp
            have e2 : ds.length + 1 = (ds ++ [l % 10]).length := by simp
            rw [e1, e2] at hown1
            have hlo := hown.lt
            have hgrow' : World.grownBy _ w1 (Value.ownBlock _) := hgrow
            refine ⟨ds ++ [l % 10], l / 10, j + 1, by omega, by go_num, by go_num, HI.out, hown1, ?_, (hbel.alloc (Nat.le_of_lt hlt) _).grown hgrow' (by simp; omega) (fun k hk => by have := (hlo k hk).1; omega), by have := hgrow'.size; simp at this; omega⟩
            rw [hgrow'.block w.heap.size (by simp; omega) (fun h => by have := (hlo _ h.symm).1; omega), Below.heap_alloc _ _ _ hlt]
            exact HR.out
          case measure => simp only [intOf]; omega
        · obtain rfl : j = 9 := by omega
          have HO := Lib.hid hin.next; clear hin
          go_wp2_with fail
          go_roundw
          case rel => exact ⟨ds, k + 1, by omega, by go_num, HO.out, hown, hr, hbel, hlt⟩
          case measure => simp only [intOf]; omega
    · obtain rfl : k = xs.length := by omega
      have HO := Lib.hid hout; clear hout
      have hsl := owns_sl hown
      obtain ⟨a', c', rfl⟩ := owns_slice hown
      have r1 := cell_heap hr 1
      clear hr hown
      go_wp2_with fail
      refine (dtrim _ ds0 (val xs) _ hsl HO.out.b HO.out.eq).mono ?_
      rintro e w' ⟨v, ds, rfl, h1, h2, h3, h4, h5⟩
      go_wp2_with fail
      go_ret
      exact ⟨v, ds, rfl, h1, h2, h3, h4, hbel.trans (h5.mono hbel.size)⟩
end Go.Proofs.YtiekhjgfnmochaaDoor
