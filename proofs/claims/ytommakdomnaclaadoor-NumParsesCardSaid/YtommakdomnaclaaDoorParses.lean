/- NumParses, walked -/
import Derived.Test.YtommakdomnaclaaDoorParseAny
import Derived.Test.YtommakdomnaclaaDoorRParse
import Derived.Test.YtommakdomnaclaaDoorLight
import Derived.Test.YtommakdomnaclaaDoorEnv
namespace Go.Proofs.YtommakdomnaclaaDoor
open Go.RowKit

set_option maxRecDepth 100000 in
set_option maxHeartbeats 2000000 in
theorem parses_out (s : ByteArray) (w : World) (ht : Pow10 w) (h1 : 3000 < s.size) :
    Calls Tryd.prog 4 #[.string s] w (TrueP w) := by
  have hd : decide ((3000 : Int) < (s.size : Int)) = true := by rw [decide_eq_true_iff]; omega
  go_enter Tryd.func4, Tryd.ntmps4
  go_wp2_with fail
  refine (answers_any _ ht).mono ?_
  rintro e V1 ⟨rfl, hb⟩
  go_wp2
  go_ret
  exact ⟨rfl, hb⟩

set_option maxRecDepth 100000 in
set_option maxHeartbeats 2000000 in
theorem parses_in (s : ByteArray) (w : World) (ht : Pow10 w) (h1 : s.size ≤ 3000) :
    Calls Tryd.prog 4 #[.string s] w (TrueP w) := by
  have hd : decide ((3000 : Int) < (s.size : Int)) = false := by rw [decide_eq_false_iff_not]; omega
  have HT := Lib.hid ht; clear ht
  go_enter Tryd.func4, Tryd.ntmps4
  go_wp2_with fail
  refine (parse_any s _ (by omega)).mono ?_
  rintro e V1 ⟨v1, n1, r1, o1, rfl, ⟨sv1, rfl, hs1⟩, hB, hr1⟩
  have HR1 := Lib.hid hr1; clear hr1
  have HS1 := Lib.hid hs1
  obtain ⟨q1, ao1, cap1, rfl, q2, q3⟩ := hs1
  clear q1 q2 q3
  have hA : Env [(V1.heap.size, n1, .slice ao1 r1.length cap1, r1)] (V1.alloc (.cells #[.bool n1, .slice ao1 r1.length cap1] 24)) := (Env.nil V1).push (n := n1) HS1.out
  have M1 : Hid ((V1.heap.size, n1, Value.slice ao1 r1.length cap1, r1) ∈ [(V1.heap.size, n1, Value.slice ao1 r1.length cap1, r1)]) := Lib.hid (by simp)
  replace hB := hB.alloc hB.size (.cells #[.bool n1, .slice ao1 r1.length cap1] 24)
  go_wp2_with fail
  refine (rparse_any s _ (by omega)).mono ?_
  rintro e V2 ⟨v2, n2, r2, o2, rfl, ⟨sv2, rfl, hs2⟩, hb, hr2⟩
  have HS2 := Lib.hid hs2
  obtain ⟨q1, ao2, cap2, rfl, q2, q3⟩ := hs2
  clear q1 q2 q3
  obtain ⟨e1, e2, e3⟩ := parse_unique HR1.out hr2
  subst e1; subst e2; subst e3
  replace hB := hB.trans (hb.mono hB.size)
  replace hA := hA.step hb
  clear hb hr2
  have hoo : (o1 == o1) = true := by simp
  cases o1
  · have hz : n1 = false ∧ r1 = [] := by
      rcases HR1.out with ⟨_, h, _⟩ | ⟨_, h1, h2, _⟩
      · cases h
      · exact ⟨h1, h2⟩
    obtain ⟨rfl, rfl⟩ := hz
    clear HS1 HS2 HR1
    go_wp2_with fail
    replace hA := hA.zero
    replace hB := hB.alloc hB.size (.cells #[.bool false, .slice none 0 0] 24)
    have M2 := Lib.hid (List.mem_cons_self (a := (V2.heap.size, false, Value.slice none 0 0, ([] : List Nat))) (l := [(V1.heap.size, false, Value.slice ao1 0 cap1, [])]))
    replace M1 := Lib.hid (List.mem_cons_of_mem (V2.heap.size, false, Value.slice none 0 0, ([] : List Nat)) M1.out)
    refine (answers_any _ (HT.out.below hB)).mono ?_
    rintro e V3 ⟨rfl, hb⟩
    replace hB := hB.trans (hb.mono hB.size)
    replace hA := hA.step hb
    clear hb
    obtain ⟨p0, p1⟩ := hA.cells M1.out
    obtain ⟨q0, q1⟩ := hA.cells M2.out
    go_wp2_with fail
    refine (same_any false false _ _ [] [] _ (hA.sl M1.out) (hA.sl M2.out)).mono ?_
    rintro e V4 ⟨rfl, hb⟩
    rw [sameB_true ⟨rfl, rfl⟩]
    replace hB := hB.trans (hb.mono hB.size)
    clear p0 p1 q0 q1
    go_wp2
    go_ret
    exact ⟨rfl, hB⟩
  · clear HS1 HR1
    have HL2 := Lib.hid (HS2.out)
    go_wp2_with fail
    replace hA := hA.push (n := n1) HL2.out
    replace hB := hB.alloc hB.size (.cells #[.bool n1, .slice ao2 r1.length cap2] 24)
    have M2 := Lib.hid (List.mem_cons_self (a := (V2.heap.size, n1, Value.slice ao2 r1.length cap2, r1)) (l := [(V1.heap.size, n1, Value.slice ao1 r1.length cap1, r1)]))
    replace M1 := Lib.hid (List.mem_cons_of_mem (V2.heap.size, n1, Value.slice ao2 r1.length cap2, r1) M1.out)
    refine (answers_any _ (HT.out.below hB)).mono ?_
    rintro e V3 ⟨rfl, hb⟩
    replace hB := hB.trans (hb.mono hB.size)
    replace hA := hA.step hb
    clear hb
    obtain ⟨p0, p1⟩ := hA.cells M1.out
    obtain ⟨q0, q1⟩ := hA.cells M2.out
    go_wp2_with fail
    refine (same_any n1 n1 _ _ r1 r1 _ (hA.sl M1.out) (hA.sl M2.out)).mono ?_
    rintro e V4 ⟨rfl, hb⟩
    rw [sameB_true ⟨rfl, rfl⟩]
    replace hB := hB.trans (hb.mono hB.size)
    clear p0 p1 q0 q1
    go_wp2
    go_ret
    exact ⟨rfl, hB⟩

/-- NumParses answers true, whatever it is given. -/
theorem parses_any (s : ByteArray) (w : World) (ht : Pow10 w) :
    Calls Tryd.prog 4 #[.string s] w (TrueP w) := by
  rcases Nat.lt_or_ge 3000 s.size with h | h
  · exact parses_out s w ht h
  · exact parses_in s w ht h
end Go.Proofs.YtommakdomnaclaaDoor
