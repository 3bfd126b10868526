/- num.times, its row laid open | num.trim, where it stands | slices.Clone of limbs -/
import Derived.Test.YtiekhjgfnmochaaDoorLook
import Derived.Test.YtiekhjgfnmochaaDoorTimesMath
import Derived.Deep.QuietTactic
import Derived.BigQuiet
import Derived.Test.YtiekhjgfnmochaaDoorTrim
import Derived.Lib.Hide
import Derived.Test.YtiekhjgfnmochaaDoorApp
import Derived.Lib.SliceRun
namespace Go.Proofs.YtiekhjgfnmochaaDoor
open Go.RowKit

/-- What times answers. -/
def TimesRow (xs ys : List Nat) (w : World) (e : Ending) (w' : World) : Prop :=
  ∃ (N : Nat) (rs : List Nat), e = .returned (.slice (some ⟨w.heap.size + 1 + 1, 0, none⟩) N N) ∧ N = rs.length ∧ Row .u32 52 w' (w.heap.size + 1 + 1) rs ∧ Lb rs ∧ rs.length = xs.length + ys.length ∧ val rs = val xs * val ys ∧ Below w.heap.size w w'

set_option maxRecDepth 100000 in
set_option maxHeartbeats 2000000 in
theorem times_row (va vb : Value) (xs ys : List Nat) (w : World) (ha : Sl .u32 w va xs) (hb : Sl .u32 w vb ys) (hx : Lb xs) (hy : Lb ys) (hxl : xs.length < 1000000) (hyl : ys.length < 1000000) :
    Calls Tryd.prog 55 #[va, vb] w (TimesRow xs ys w) := by
  obtain ⟨i0, hi, hz0, hz1, hz2⟩ := info_parts infoU32
  have HA := Lib.hid ha
  have HB := Lib.hid hb
  obtain ⟨hma, ao, ca, rfl, hca, ha'⟩ := ha
  obtain ⟨hmb, bo, cb, rfl, hcb, hb'⟩ := hb
  clear ha' hb'
  unfold maxLen at hma hmb
  have HX := Lib.hid hx; clear hx
  have HY := Lib.hid hy; clear hy
  obtain ⟨n, hn⟩ : ∃ n, n = xs.length := ⟨_, rfl⟩
  obtain ⟨m, hm⟩ : ∃ m, m = ys.length := ⟨_, rfl⟩
  have hn1 : xs.length ≤ n := by omega
  have hn2 : n ≤ xs.length := by omega
  have hm1 : ys.length ≤ m := by omega
  have hm2 : m ≤ ys.length := by omega
  have HN := Lib.hid hn; clear hn
  have HM := Lib.hid hm; clear hm
  go_enter Tryd.func55, Tryd.ntmps55
  go_wp2_with fail
  refine (look_any _ _ _ _).mono ?_
  rintro e w' ⟨rfl, rfl⟩
  go_wp2_with fail
  refine (look_any _ _ _ _).mono ?_
  rintro e w' ⟨rfl, rfl⟩
  go_wp2_with (at_make; refine wpList_make_full _ rfl _ _ 22 rfl w.heap.size 52 i0 (.int .u32 0) 1 Tryd.underlying22 hi hz0 hz1 _ _ _ _ (n + m) rfl rfl (by omega) (by omega) (by rw [hz2]; omega) (by unfold maxLen; omega) (by simp; omega) ?_; intro w1 hown hgrow)
  have hrow : Row .u32 52 w1 (w.heap.size + 1 + 1) (List.replicate (n + m) 0) := by have := Row.of_made hown; simpa only [World.size_alloc] using this
  clear hown
  have hb1 : Below w.heap.size w w1 := (below2 w _ _).grown hgrow (by simp; omega) (fun _ h => by cases h)
  have hcA : w1.cell? ⟨w.heap.size, 0, none⟩ = some (.slice ao xs.length ca) := hgrow.cell (by simp) (by simp)
  have hcB : w1.cell? ⟨w.heap.size + 1, 0, none⟩ = some (.slice bo ys.length cb) := hgrow.cell (by simp) (by simp)
  clear hgrow
  go_loopw [24] (fun i wr => ∃ k rs, k ≤ n ∧ i = .int .i64 (k : Nat) ∧ Row .u32 52 wr (w.heap.size + 1 + 1) rs ∧ TimesOut xs ys rs m (n + m) k ∧ wr.cell? ⟨w.heap.size, 0, none⟩ = some (.slice ao xs.length ca) ∧ wr.cell? ⟨w.heap.size + 1, 0, none⟩ = some (.slice bo ys.length cb) ∧ Below w.heap.size w wr) (fun i _ => n - (intOf i).toNat)
  case atStart => exact ⟨0, _, by omega, rfl, hrow, TimesOut.start, hcA, hcB, hb1⟩
  case round =>
    clear hrow hcA hcB hb1
    obtain ⟨k, rs0, hk, rfl, hrow, hout, hcA, hcB, hbel⟩ := hrel
    by_cases hkn : k < n
    · have HOUT := Lib.hid hout; clear hout
      go_wp2_with fail
      go_loopw [9, 30] (fun c j wr => ∃ jj cc rs, jj ≤ m + 1 ∧ j = .int .i64 (jj : Nat) ∧ c = .int .u64 (cc : Nat) ∧ Row .u32 52 wr (w.heap.size + 1 + 1) rs ∧ TimesIn ys rs0 rs k (limb xs k) m (n + m) jj cc ∧ wr.cell? ⟨w.heap.size, 0, none⟩ = some (.slice ao xs.length ca) ∧ wr.cell? ⟨w.heap.size + 1, 0, none⟩ = some (.slice bo ys.length cb) ∧ Below w.heap.size w wr) (fun _ j _ => m + 1 - (intOf j).toNat)
      case atStart => exact ⟨0, 0, rs0, by omega, rfl, rfl, hrow, HOUT.out.inn _, hcA, hcB, hbel⟩
      case round =>
        clear hrow hcA hcB hbel
        obtain ⟨j, cc, rs, hj, rfl, rfl, hrow, hin, hcA, hcB, hbel⟩ := hrel
        by_cases hjm : j < m + 1
        · have hxk := HX.out k
          have hyj := HY.out j
          have hcc := hin.small
          have HI := Lib.hid hin; clear hin
          have hlen : k + j < rs.length := by rw [HI.out.len]; omega
          have hrk := HI.out.lb (k + j)
          have hcell := hrow.cell (j := k + j) hlen
          have hfr := hrow.frozen (k + j)
          clear hlen
          have HR := Lib.hid hrow; clear hrow
          have CA : Hid (∀ q, Calls Tryd.prog 59 #[.int .i64 (k : Nat), .pointer (some ⟨w.heap.size, 0, none⟩)] (wr.drewN q) fun e w' => e = .returned (.int .u64 ((limb xs k : Nat) : Int)) ∧ w' = wr.drewN q) := Lib.hid fun q =>
            (look1_any w.heap.size k _ xs (wr.drewN q) (by omega) hcA (HA.out.below (below_drewN hbel q)) HX.out.wide).mono fun _ _ ⟨h1, h2⟩ => ⟨h1, h2.symm⟩
          have CB : Hid (∀ q, Calls Tryd.prog 59 #[.int .i64 (j : Nat), .pointer (some ⟨w.heap.size + 1, 0, none⟩)] (wr.drewN q) fun e w' => e = .returned (.int .u64 ((limb ys j : Nat) : Int)) ∧ w' = wr.drewN q) := Lib.hid fun q =>
            (look1_any (w.heap.size + 1) j _ ys (wr.drewN q) (by omega) hcB (HB.out.below (below_drewN hbel q)) HY.out.wide).mono fun _ _ ⟨h1, h2⟩ => ⟨h1, h2.symm⟩
          have hxy : limb xs k * limb ys j ≤ 999999998000000001 := by have := Nat.mul_le_mul (show limb xs k ≤ 999999999 by omega) (show limb ys j ≤ 999999999 by omega); omega
          have hxyc : ((limb xs k * limb ys j : Nat) : Int) = (limb xs k : Int) * (limb ys j : Int) := Int.natCast_mul _ _
          have e1 : IntKind.i64.wrap ((k : Int) + (j : Int)) = (k : Int) + (j : Int) := IntWalk.i64_in _ (by omega)
          have e2 : ((k : Int) + (j : Int)).toNat = k + j := by omega
          have e3 : 0 ≤ (k : Int) + (j : Int) := by omega
          have e4 : IntKind.u64.wrap ((limb xs k : Int) * (limb ys j : Int)) = (limb xs k : Int) * (limb ys j : Int) := IntWalk.u64_in _ (by omega)
          have e5 : IntKind.u64.wrap (((limb rs (k + j) : Nat) : Int) + (limb xs k : Int) * (limb ys j : Int)) = ((limb rs (k + j) : Nat) : Int) + (limb xs k : Int) * (limb ys j : Int) := IntWalk.u64_in _ (by omega)
          have e6 : IntKind.u64.wrap (((limb rs (k + j) : Nat) : Int) + (limb xs k : Int) * (limb ys j : Int) + (cc : Int)) = ((limb rs (k + j) : Nat) : Int) + (limb xs k : Int) * (limb ys j : Int) + (cc : Int) := IntWalk.u64_in _ (by omega)
          have HXY := Lib.hid hxyc; clear hxyc
          go_wp2_with fail
          go_quiet ((first | (with_reducible exact Calls.quiet_of_same (CA.out _)) | (with_reducible exact Calls.quiet_of_same (CB.out _))))
          clear e1 e2 e3 e4 e5 e6
          have hst := HI.out.step hxk HY.out hm1 (by omega) (by omega) (HOUT.out.zero (k + m) (Nat.le_refl _))
          have HST := Lib.hid hst; clear hst
          go_wp2
          go_roundw
          case rel =>
            have ec : (limb xs k : Int) * (limb ys j : Int) = ((limb xs k * limb ys j : Nat) : Int) := HXY.out.symm
            rw [ec]
            refine ⟨j + 1, _, _, by omega, by go_num, ?_, (HR.out.drewN nq).put _ ((limb rs (k + j) + limb xs k * limb ys j + cc) % 1000000000) (by omega), HST.out, ?_, ?_, (below_drewN hbel nq).setCell (by simp; omega) _⟩
            · have : ∀ a b : Int, a = b → Value.int .u64 a = .int .u64 b := fun _ _ h => by rw [h]
              exact this _ _ (by omega)
            · rw [cell_other (by simp; omega)]; exact hcA
            · rw [cell_other (by simp)]; exact hcB
          case measure => simp only [intOf]; omega
        · obtain rfl : j = m + 1 := by omega
          have HO2 := Lib.hid (HOUT.out.next hin hm1)
          clear hin
          go_wp2
          go_roundw
          case rel => exact ⟨k + 1, rs, by omega, by go_num, hrow, HO2.out, hcA, hcB, hbel⟩
          case measure => simp only [intOf]; omega
    · obtain rfl : k = n := by omega
      obtain rfl : k = xs.length := by omega
      obtain ⟨hlb, hlen, hval⟩ := hout.done
      have HL := Lib.hid hlen; clear hlen
      have HV := Lib.hid hval; clear hval
      go_wp2
      go_ret
      exact ⟨_, rs0, rfl, HL.out.symm, hrow, hlb, by rw [HL.out]; omega, HV.out, hbel⟩
end Go.Proofs.YtiekhjgfnmochaaDoor
namespace Go.Proofs.YtiekhjgfnmochaaDoor
open Go.RowKit

/-- What trim leaves: of the same row, a part. -/
def TrimRow (b off cap : Nat) (xs : List Nat) (w : World) (e : Ending) (w' : World) : Prop :=
  ∃ n, e = .returned (.slice (some ⟨b, off, none⟩) n cap) ∧ n ≤ xs.length ∧ (n = 0 ∨ limb xs (n - 1) ≠ 0) ∧ (∀ i, n ≤ i → limb xs i = 0) ∧ w = w'

set_option maxRecDepth 100000 in
set_option maxHeartbeats 1000000 in
theorem trim_row (b off cap : Nat) (xs : List Nat) (w : World) (hs : Sl .u32 w (.slice (some ⟨b, off, none⟩) xs.length cap) xs) (hne : xs ≠ []) (hx : ∀ i, limb xs i < 4294967296) :
    Calls Tryd.prog 66 #[.slice (some ⟨b, off, none⟩) xs.length cap] w (TrimRow b off cap xs w) := by
  obtain ⟨hm, ao, cap', hv, hcap, h⟩ := hs
  simp only [Value.slice.injEq, true_and] at hv
  obtain ⟨rfl, rfl⟩ := hv
  unfold maxLen at hm
  have HX := Lib.hid hx; clear hx
  rcases h with ⟨h, _⟩ | ⟨b', off', he, hb, hcell⟩
  · exact absurd h hne
  · simp only [Option.some.injEq, Addr.mk.injEq, and_true] at he
    obtain ⟨rfl, rfl⟩ := he
    have HNE := Lib.hid hne; clear hne
    have HC := Lib.hid hcell; clear hcell
    go_enter Tryd.func66, Tryd.ntmps66
    go_wp2
    go_loop [3] (fun i => ∃ n : Nat, n ≤ xs.length ∧ i = .int .i64 n ∧ ∀ j, n ≤ j → limb xs j = 0) (fun i => (intOf i).toNat)
    case atStart => exact ⟨xs.length, Nat.le_refl _, rfl, fun j hj => limb_out hj⟩
    case round =>
      obtain ⟨n, hn, rfl, hz⟩ := hrel
      have HZ := Lib.hid hz; clear hz
      rcases n with _ | m
      · go_wp2
        go_ret
        exact ⟨0, rfl, by omega, .inl rfl, HZ.out, rfl⟩
      · have hcm := HC.out m (by omega)
        have hxm := HX.out m
        rcases Nat.eq_zero_or_pos (limb xs m) with h0 | hp
        · have h1 : limb xs m ≤ 0 := by omega
          have H0 := Lib.hid h0; clear h0
          go_wp2
          go_round
          case rel => exact ⟨m, by omega, by first | rfl | go_num, fun j hj => by
            by_cases e : j = m
            · subst e; exact H0.out
            · exact HZ.out j (by omega)⟩
          case measure => simp only [intOf]; omega
        · go_wp2
          go_ret
          exact ⟨m + 1, rfl, by omega, .inr (by rw [Nat.add_sub_cancel]; omega), HZ.out, rfl⟩
end Go.Proofs.YtiekhjgfnmochaaDoor
namespace Go.Proofs.YtiekhjgfnmochaaDoor
open Go.RowKit

set_option maxRecDepth 100000 in
set_option maxHeartbeats 1000000 in
theorem clone_any (ao : Option Addr) (cap : Nat) (xs : List Nat) (w : World) (hs : Sl .u32 w (.slice ao xs.length cap) xs) (hl : xs.length ≤ 1000000) :
    Calls Tryd.prog 68 #[.slice ao xs.length cap] w fun e w' => ∃ v', e = .returned v' ∧ Sl .u32 w' v' xs ∧ Below w.heap.size w w' := by
  obtain ⟨i0, hi, hz0, hz1, hz2⟩ := info_parts infoU32
  have q22 : ∀ (w : World) (a : Option Addr) (n c n' c' : Nat), (binOp .eql 22 (.slice a n c) (.slice none n' c')).run Tryd.prog w = .ok (.bool a.isNone) w := fun w a n c n' c' => Lib.run_eql_slice_nil w _ _ a n c n' c' Tryd.underlying22
  have HS := Lib.hid hs
  cases ao with
  | none =>
    have hx : xs = [] := by
      obtain ⟨_, ao', c, e, _, h⟩ := hs
      simp only [Value.slice.injEq, true_and] at e
      obtain ⟨rfl, rfl⟩ := e
      rcases h with ⟨h, _⟩ | ⟨_, _, h, _⟩
      · exact h
      · cases h
    subst hx
    clear hs
    go_enter Tryd.func68, Tryd.ntmps68
    go_wp2
    go_ret
    exact ⟨.slice none 0 0, rfl, ⟨by simp, none, 0, rfl, by simp, .inl ⟨rfl, fun _ => rfl⟩⟩, Below.refl _ _⟩
  | some ad =>
    clear hs
    go_enter Tryd.func68, Tryd.ntmps68
    go_wp2_with (at_builtin; refine wpList_append_sl rfl _ _ _ rfl w.heap.size 52 i0 (.int .u32 0) 4 Tryd.underlying22 hi hz0 hz1 hz2 rfl _ 0 [] rfl (World.ownsRow_made w #[] 0 (Nat.le_refl _) (Nat.zero_le _) rfl) .u32 _ xs rfl (HS.out.below (below1 _ _)) (by unfold maxLen; omega) (by omega) (by simp) ?_; intro v' w2 hown hgrow)
    have hgrow' : (w.alloc (.cells #[] 52)).grownBy w2 (some w.heap.size) := hgrow
    clear hgrow
    rw [Nat.zero_add, List.nil_append] at hown
    have hsl := owns_sl hown
    have hbel := (below1 w (.cells #[] 52)).grown hgrow' (by simp) (fun k hk => by cases hk; exact Nat.le_refl _)
    clear hown hgrow'
    go_ret
    exact ⟨_, rfl, hsl, hbel⟩
end Go.Proofs.YtiekhjgfnmochaaDoor
