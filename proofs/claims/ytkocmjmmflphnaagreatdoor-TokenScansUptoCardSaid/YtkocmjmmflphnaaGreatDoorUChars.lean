/- ref.Chars, ref.Decode -/
import Derived.Test.YtkocmjmmflphnaaGreatDoorUOne
namespace Go.Proofs.YtkocmjmmflphnaaGreatDoor
open Go.RowKit

/-- What Chars answers. -/
def chA (bs : List Nat) : List Nat × Int := match chars bs 0 with
  | (cs, none) => (cs, -1)
  | (_, some k) => ([], (k : Int))
theorem chA_ok {bs cs : List Nat} (h : chars bs 0 = (cs, none)) : chA bs = (cs, -1) := by unfold chA; rw [h]
theorem chA_bad {bs : List Nat} {k : Nat} (h : (chars bs 0).2 = some k) : chA bs = ([], (k : Int)) := by
  unfold chA
  generalize chars bs 0 = p at *
  obtain ⟨a, b⟩ := p
  simp at h
  subst h
  rfl
def CharsPost (bs : List Nat) (w : World) (e : Ending) (w' : World) : Prop :=
  ∃ v, e = .returned (.tuple #[v, .int .i64 (chA bs).2]) ∧ Sl .i64 w' v (chA bs).1 ∧ Below w.heap.size w w'
theorem CharsPost.mk {bs : List Nat} {w w' : World} {v : Value} {cs : List Nat} {z : Int} (h : chA bs = (cs, z)) (hs : Sl .i64 w' v cs) (hb : Below w.heap.size w w') : CharsPost bs w (.returned (.tuple #[v, .int .i64 z])) w' := by
  refine ⟨v, by rw [h], by rw [h]; exact hs, hb⟩

set_option maxRecDepth 100000 in
set_option maxHeartbeats 1000000 in
theorem rchars_any (sv : Value) (bs : List Nat) (w : World) (hs : Sl .u8 w sv bs) (hby : By bs) (hl : bs.length ≤ 1000000000000) :
    Calls Tryz.prog 9 #[sv] w (CharsPost bs w) := by
  obtain ⟨i0, hi, hz0, hz1, hz2⟩ := info_parts infoInt
  have HS := Lib.hid hs
  obtain ⟨hm, ao, cap, rfl, hcap, h⟩ := hs
  unfold maxLen at hm
  have HY := Lib.hid hby; clear hby
  have HC : Hid (∀ j, j < bs.length → ∃ b off, ao = some ⟨b, off, none⟩ ∧ b < w.heap.size ∧ ∀ j, j < bs.length → w.cell? ⟨b, off + j, none⟩ = some (.int .u8 ((limb bs j : Nat) : Int))) := Lib.hid fun j hj => by
    rcases h with ⟨h, _⟩ | ⟨b, off, h1, h2, h3⟩
    · rw [h] at hj; simp at hj
    · exact ⟨b, off, h1, h2, h3⟩
  clear h
  go_enter Tryz.func9, Tryz.ntmps9
  go_wp2_with fail
  go_loopw [4, 5] (fun v i wr => ∃ cs k, i = .int .i64 (k : Nat) ∧ Chr bs cs k ∧ wr.ownsRow w.heap.size 3 1 v cs.length (cs.map fun (x : Nat) => Value.int .i64 (x : Int)) ∧ Below w.heap.size w wr) (fun _ i _ => bs.length - (intOf i).toNat)
  case atStart => exact ⟨[], 0, rfl, Chr.start bs, World.ownsRow_nil _ _ _ _, Below.refl _ _⟩
  case round =>
    obtain ⟨cs, k, rfl, hchr, hown, hbel⟩ := hrel
    have hk := hchr.le
    have hlen := hchr.len
    by_cases hkn : k < bs.length
    · obtain ⟨b, off, hao, hb, hc⟩ := HC.out k hkn
      subst hao
      have HCW : Hid (∀ j, j < bs.length → wr.cell? ⟨b, off + j, none⟩ = some (.int .u8 ((limb bs j : Nat) : Int))) := Lib.hid fun j hj => by
        rw [hbel.cell (p := ⟨b, off + j, none⟩) hb]; exact hc j hj
      clear hc
      have HCH := Lib.hid hchr; clear hchr
      have hz := dc_size bs k
      have hch := dc_char bs k
      have hin := dc_in hkn
      go_wp2_with fail
      refine (one_any b off cap k bs wr hkn (by omega) HY.out HCW.out).mono ?_
      rintro e w1 ⟨rfl, hb1⟩
      have hbw : Below w.heap.size w w1 := hbel.trans (hb1.mono hbel.size)
      have HOW := Lib.hid (owns_below hown hb1)
      cases hbad : badB (dc bs k)
      · have HB := Lib.hid hbad
        rw [oneA_ok hbad]
        clear hbad hb1 hown
        have hn0 : ((((dc bs k).2 : Nat) : Int) == 0) = false := by rw [beq_eq_false_iff_ne]; omega
        have hl2 : cs.length < 1000000000001 := by omega
        have HI := Lib.hid (HCH.out.step hkn HB.out)
        have hsz := hbw.size
        go_wp2_with (at_builtin; go_loud (refine wpList_append_own _ rfl _ _ 22 rfl w.heap.size 3 i0 (.int .i64 0) 1 8 Tryz.underlying22 hi hz0 hz1 hz2 rfl (by decide) _ cs.length (cs.map fun (x : Nat) => Value.int .i64 (x : Int)) rfl (HOW.out.alloc _) ⟨w1.heap.size, 0, none⟩ 1 1 [.int .i64 ((dc bs k).1 : Nat)] rfl (by simp) (cell_one_new _ _ _) (by intro u hu; rw [List.mem_singleton] at hu; subst hu; rfl) (by unfold maxLen; omega) (by omega) (by simp; omega) ?_); intro v' w2 hown1 hgrow hnil; clear hnil)
        go_roundw
        case rel =>
          have e1 : (List.map (fun (x : Nat) => Value.int .i64 (x : Int)) cs ++ [.int .i64 ((dc bs k).1 : Nat)]) = (cs ++ [(dc bs k).1]).map fun (x : Nat) => Value.int .i64 (x : Int) := by simp
          have e2 : cs.length + 1 = (cs ++ [(dc bs k).1]).length := by simp
          rw [e1, e2] at hown1
          have hlo := HOW.out.lt
          have hgrow' : World.grownBy _ w2 (Value.ownBlock _) := hgrow
          exact ⟨cs ++ [(dc bs k).1], k + (dc bs k).2, by go_num, HI.out, hown1, (hbw.alloc hbw.size _).grown hgrow' (by simp; omega) (fun k hk => by have := (hlo k hk).1; omega)⟩
        case measure => simp only [intOf]; omega
      · have HB := Lib.hid hbad
        rw [oneA_bad hbad]
        clear hbad hb1 hown
        go_wp2
        go_ret2
        exact CharsPost.mk (chA_bad (HCH.out.bad hkn HB.out)) (Sl.nil' _ _) hbw
    · obtain hkl : bs.length ≤ k := by omega
      have HD := Lib.hid (hchr.done hkl); clear hchr
      have hsl := owns_sl hown
      clear hown
      go_wp2
      go_ret2
      exact CharsPost.mk (chA_ok HD.out) hsl hbel
end Go.Proofs.YtkocmjmmflphnaaGreatDoor
