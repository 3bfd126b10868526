/- The list of objects: Name. -/
import Derived.Test.YtioidaojnbenbaaRsRead
namespace Go.Proofs.Ytioidaojnbenbaa
open Go.RowKit

/-- What Name answers. -/
def St.nameA (s : St) (v : Int × Int) : ByteArray × Int := if v.1 = 6 ∧ sdV s.os.length s.ns.length v = true then ((s.ns[v.2.toNat]?).getD ⟨#[]⟩, 0) else (⟨#[]⟩, 10)
theorem nameA_no {s : St} {v : Int × Int} (h : ¬ (v.1 = 6 ∧ sdV s.os.length s.ns.length v = true)) : s.nameA v = (⟨#[]⟩, 10) := by unfold St.nameA; rw [if_neg h]
theorem nameA_at {s : St} {j : Nat} (h : j < s.ns.length) : s.nameA (6, ((j : Nat) : Int)) = (s.ns[j]'h, 0) := by
  unfold St.nameA
  rw [if_pos ⟨rfl, by rw [sdV_sym rfl]; simp; omega⟩, Int.toNat_natCast, List.getElem?_eq_getElem h]
  rfl
theorem row_name {W : World} {v : Value} {n : Nat} {ns : List ByteArray} (h : RowV W v n 1 (ns.map Value.string)) (hn : n = ns.length) {j : Nat} (hj : j < ns.length) :
    ∃ b off cap, v = .slice (some ⟨b, off, none⟩) n cap ∧ b < W.heap.size ∧ W.cell? ⟨b, off + j, none⟩ = some (.string (ns[j]'hj)) := by
  obtain ⟨_, _, ao, cap, rfl, _, hr⟩ := h
  rcases hr with ⟨h0, _⟩ | ⟨b, off, rfl, hb, hc⟩
  · omega
  · exact ⟨b, off, cap, rfl, hb, hc j _ (by simp [hj])⟩

set_option maxRecDepth 100000 in
set_option maxHeartbeats 4000000 in
theorem rname_any (g : Nat) (Q : Nat → Nat) (s : St) (v : Int × Int) (w : World) (h : RsW w g Q s) :
    Calls Try.prog 33 #[.pointer (some ⟨g, 0, none⟩), .agg #[.int .i64 v.1, .int .i64 v.2]] w fun e w' => e = .returned (.tuple #[.string (s.nameA v).1, .int .i64 (s.nameA v).2]) ∧ Below w.heap.size w w' := by
  obtain ⟨t, n⟩ := v
  simp only
  have HS := Lib.hid h
  have HB1 := Lib.hid (below1 w (.cells #[.int .i64 t, .int .i64 n] 35))
  have hX1 := box1 w #[.int .i64 t, .int .i64 n] 35
  have HX1 := Lib.hid hX1
  obtain ⟨p0, p1, z0, z1⟩ := row2 hX1
  clear h hX1
  by_cases h6 : t = 6
  · subst h6
    go_enter Try.func33, Try.ntmps33
    go_wp2_with fail
    refine (rsound_any g Q s (6, n) _ (HS.out.below HB1.out)).mono ?_
    rintro e w1 ⟨rfl, hb1⟩
    have HB2 := Lib.hid (HB1.out.trans (hb1.mono HB1.out.size))
    have HX2 := Lib.hid ((hb1.block w.heap.size (Array.getElem?_eq_some_iff.1 HX1.out).1).trans HX1.out)
    clear hb1 p0 p1 z0 z1
    obtain ⟨E, hE⟩ : ∃ E, sdV s.os.length s.ns.length (6, n) = E := ⟨_, rfl⟩
    rw [hE]
    have HE := Lib.hid hE
    clear hE
    cases E with
    | false =>
      go_wp2_with fail
      refine bodyPost_ret (v := .tuple #[.string ⟨#[]⟩, .int .i64 10]) (by simp [results, Try.results33, go_sem]) rfl ⟨?_, HB2.out⟩
      rw [nameA_no (by rw [HE.out]; simp)]
    | true =>
      have he := HE.out
      rw [sdV_sym rfl, decide_eq_true_iff] at he
      obtain ⟨j, rfl⟩ : ∃ j : Nat, n = (j : Int) := ⟨n.toNat, by have := he.1; simp only at this; omega⟩
      have hj : j < s.ns.length := by have := he.2; simp only at this; omega
      have HNA := Lib.hid (nameA_at hj)
      obtain ⟨ms, ov, nv, hm⟩ := HS.out.below HB2.out
      obtain ⟨⟨_, _, _, c3⟩, _⟩ := hm.boxf
      obtain ⟨nb, no, nc, rfl, _, d0⟩ := row_name (RowV.of_own hm.nrow) rfl hj
      obtain ⟨p0, p1, z0, z1⟩ := row2 HX2.out
      have hji : ((j : Nat) : Int) < ((s.ns.length : Nat) : Int) := by omega
      generalize s.ns[j]'hj = u at *
      clear he hm hj
      go_upto_region 3 with fail
      go_region
      go_wp2_with fail
      refine bodyPost_ret (v := .tuple #[.string u, .int .i64 0]) (by simp [results, Try.results33, go_sem]) rfl ⟨by rw [HNA.out], ?_⟩
      first | exact HB2.out.drew | exact below_drewN HB2.out _ | exact HB2.out
  · have hne : (t == 6) = false := by rw [beq_eq_false_iff_ne]; exact h6
    have H6 := Lib.hid h6
    clear h6
    go_enter Try.func33, Try.ntmps33
    go_wp2_with fail
    refine bodyPost_ret (v := .tuple #[.string ⟨#[]⟩, .int .i64 10]) (by simp [results, Try.results33, go_sem]) rfl ⟨?_, HB1.out⟩
    rw [nameA_no (fun h => H6.out h.1)]
end Go.Proofs.Ytioidaojnbenbaa
