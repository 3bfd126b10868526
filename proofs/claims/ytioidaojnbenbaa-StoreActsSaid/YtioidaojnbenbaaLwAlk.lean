/- Unwrap of what is no piece of syntax; law06's alike. -/
import Derived.Test.YtioidaojnbenbaaTwoX
import Derived.Test.YtioidaojnbenbaaStUnw
import Derived.Test.YtioidaojnbenbaaLwSame
import Derived.Test.YtioidaojnbenbaaOrdG
import Derived.Test.YtioidaojnbenbaaOrdL
namespace Go.Proofs.Ytioidaojnbenbaa
open Go.RowKit

/-- An operation whose guard was passed over is passed over. -/
theorem unwanted_undef {ops : Array Oper} {o : Oper} {a : Act} {g t : Nat} {b : Bool} (hg : o.guard = some (g, b)) (hd : (ops[g]?).bind (·.dst) = some t) (hv : a.tmps.getD t undef = undef) : Region.wanted o (yielded ops a.tmps) = false := by
  unfold Region.wanted yielded
  rw [hg]
  simp only [hd, Option.bind_some]
  cases h : a.tmps[t]? with
  | none => simp
  | some x =>
    have h1 : x = undef := by
      rw [Array.getD_eq_getD_getElem?, h] at hv
      exact hv
    subst h1
    simp [undef]
set_option maxRecDepth 100000 in
set_option maxHeartbeats 4000000 in
theorem stunwrap_no (g : Nat) (R : Nat → Nat) (s : St) (v : Int × Int) (w : World) (h : StW w g R s) (ho : ∀ o, s.obj v = some o → o.k ≠ 10) :
    Calls Try.prog 19 #[.pointer (some ⟨g, 0, none⟩), .agg #[.int .i64 v.1, .int .i64 v.2]] w fun e w' => e = .returned (.tuple #[.agg #[.int .i64 0, .string ⟨#[]⟩, .bool false, .slice none 0 0, .slice none 0 0, .int .i64 0, .slice none 0 0, .slice none 0 0], .int .i64 10]) ∧ Below w.heap.size w w' := by
  obtain ⟨ms, ov, nv, mv, hm⟩ := h
  have HM := Lib.hid hm
  have HOB := Lib.hid ho
  have HB1 := Lib.hid (below2 w (.cells #[.int .i64 v.1, .int .i64 v.2] 35) (.cells #[.int .i64 0, .string ⟨#[]⟩, .bool false, .slice none 0 0, .slice none 0 0, .int .i64 0, .slice none 0 0, .slice none 0 0] 50))
  have HN1 := Lib.hid (@news2v w (.cells #[.int .i64 v.1, .int .i64 v.2] 35) (.cells #[.int .i64 0, .string ⟨#[]⟩, .bool false, .slice none 0 0, .slice none 0 0, .int .i64 0, .slice none 0 0, .slice none 0 0] 50))
  have HN2 := Lib.hid (@news2u w (.cells #[.int .i64 v.1, .int .i64 v.2] 35) (.cells #[.int .i64 0, .string ⟨#[]⟩, .bool false, .slice none 0 0, .slice none 0 0, .int .i64 0, .slice none 0 0, .slice none 0 0] 50))
  have hgl := hm.glt
  clear hm ho
  go_enter Try.func19, Try.ntmps19
  go_upto_region 3 with fail
  generalize (w.alloc (.cells #[.int .i64 v.1, .int .i64 v.2] 35)).alloc (.cells #[.int .i64 0, .string ⟨#[]⟩, .bool false, .slice none 0 0, .slice none 0 0, .int .i64 0, .slice none 0 0, .slice none 0 0] 50) = w1 at *
  have R0 := Lib.hid HN1.out
  have R1 := Lib.hid HN2.out
  clear HN1 HN2
  obtain ⟨p0, p1, _, _⟩ := row2 R0.out
  go_wp2_with fail
  refine (stfind_any g R s ms ov nv mv v _ (HM.out.below HB1.out)).mono ?_
  rintro e w2 ⟨hb2, h | ⟨b, cap, ho, hov, rfl⟩⟩
  · obtain ⟨hn, rfl⟩ := h
    have HB2 := Lib.hid (HB1.out.trans (hb2.mono HB1.out.size))
    have S1 := Lib.hid ((hb2.block _ (Array.getElem?_eq_some_iff.1 R1.out).1).trans R1.out)
    clear hb2 R0 R1 p0 p1 hn
    obtain ⟨q0, q1, q2, q3, q4, q5, q6, q7⟩ := row8 S1.out
    have z0 := frozen_heap S1.out 0
    have z1 := frozen_heap S1.out 1
    have z2 := frozen_heap S1.out 2
    have z3 := frozen_heap S1.out 3
    have z4 := frozen_heap S1.out 4
    have z5 := frozen_heap S1.out 5
    have z6 := frozen_heap S1.out 6
    have z7 := frozen_heap S1.out 7
    go_wp2_with fail
    have hfin := put8 S1.out (.int .i64 0) (.string ⟨#[]⟩) (.bool false) (.slice none 0 0) (.slice none 0 0) (.int .i64 0) (.slice none 0 0) (.slice none 0 0)
    have hbf := below8 HB2.out (g := w.heap.size + 1) (by omega) (.int .i64 0) (.string ⟨#[]⟩) (.bool false) (.slice none 0 0) (.slice none 0 0) (.int .i64 0) (.slice none 0 0) (.slice none 0 0)
    clear q0 q1 q2 q3 q4 q5 q6 q7 z0 z1 z2 z3 z4 z5 z6 z7
    obtain ⟨q0, q1, q2, q3, q4, q5, q6, q7⟩ := row8 hfin
    refine bodyPost_ret (v := .tuple #[.agg #[.int .i64 0, .string ⟨#[]⟩, .bool false, .slice none 0 0, .slice none 0 0, .int .i64 0, .slice none 0 0, .slice none 0 0], .int .i64 10]) (by simp [results, Try.results19, go_sem, q0, q1, q2, q3, q4, q5, q6, q7]) rfl ⟨rfl, hbf⟩
  · have HB2 := Lib.hid (HB1.out.trans (hb2.mono HB1.out.size))
    have S1 := Lib.hid ((hb2.block _ (Array.getElem?_eq_some_iff.1 R1.out).1).trans R1.out)
    clear hb2 R0 R1 p0 p1
    obtain ⟨k, hk, rfl, hok⟩ := HM.out.objIs ho
    have hM2 := HM.out.below HB2.out
    obtain ⟨b', cap', e', _, _, _, q0, _, _, q3⟩ := hM2.objAt hk
    have hne := HOB.out _ hok
    rw [hov] at e'
    simp only [Value.slice.injEq, Option.some.injEq, Addr.mk.injEq, and_true] at e'
    obtain ⟨rfl, _, rfl⟩ := e'
    generalize (ms[k]'hk).o.k = K at *
    have hneb : (K != 10) = true := by rw [bne_iff_ne]; exact hne
    have hneb2 : (K == 10) = false := by rw [beq_eq_false_iff_ne]; exact hne
    simp only [Int.toNat_natCast]
    clear hM2 q3 hne hok
    have Q0 := Lib.hid q0
    clear q0
    have q9 := Q0.out
    obtain ⟨q0, q1, q2, q3, q4, q5, q6, q7⟩ := row8 S1.out
    have z0 := frozen_heap S1.out 0
    have z1 := frozen_heap S1.out 1
    have z2 := frozen_heap S1.out 2
    have z3 := frozen_heap S1.out 3
    have z4 := frozen_heap S1.out 4
    have z5 := frozen_heap S1.out 5
    have z6 := frozen_heap S1.out 6
    have z7 := frozen_heap S1.out 7
    go_wp2_with fail
    have hfin := put8 S1.out (.int .i64 0) (.string ⟨#[]⟩) (.bool false) (.slice none 0 0) (.slice none 0 0) (.int .i64 0) (.slice none 0 0) (.slice none 0 0)
    have hbf := below8 HB2.out (g := w.heap.size + 1) (by omega) (.int .i64 0) (.string ⟨#[]⟩) (.bool false) (.slice none 0 0) (.slice none 0 0) (.int .i64 0) (.slice none 0 0) (.slice none 0 0)
    clear q0 q1 q2 q3 q4 q5 q6 q7 z0 z1 z2 z3 z4 z5 z6 z7
    obtain ⟨q0, q1, q2, q3, q4, q5, q6, q7⟩ := row8 hfin
    refine bodyPost_ret (v := .tuple #[.agg #[.int .i64 0, .string ⟨#[]⟩, .bool false, .slice none 0 0, .slice none 0 0, .int .i64 0, .slice none 0 0, .slice none 0 0], .int .i64 10]) (by simp [results, Try.results19, go_sem, q0, q1, q2, q3, q4, q5, q6, q7]) rfl ⟨rfl, hbf⟩

theorem slots_lenA (s : St) (v : Int × Int) : s.len v = (s.slots v).length := by
  unfold St.len St.slots
  cases s.obj v <;> rfl
theorem slots_getA {s : St} {v : Int × Int} {k : Nat} (hk : k < (s.slots v).length) : s.get v ((k : Nat) : Int) = ((s.slots v)[k]'hk, 0) := by
  cases ho : s.obj v with
  | none => unfold St.slots at hk; rw [ho] at hk; simp at hk
  | some o =>
    have e : s.slots v = o.s := obj_slots ho
    have hk2 : k < o.s.length := by rw [← e]; exact hk
    rw [rgt_in ho hk2]
    simp only [e]

set_option maxRecDepth 100000 in
set_option maxHeartbeats 16000000 in
theorem alike_any (w0 w : World) (gs gm : Nat) (s : St) (n : Nat) (κ : Nat → Option Obj) (h : TwoX w0 w gs gm s s κ) (hg : Gd s n) :
    Calls Try.prog 10 #[.pointer (some ⟨gs, 0, none⟩), .pointer (some ⟨gm, 0, none⟩)] w fun e w' => e = .returned (.bool true) ∧ Below w.heap.size w w' := by
  obtain ⟨R, Q, h1, _⟩ := h
  have HS := Lib.hid h1.st.st
  have HQ := Lib.hid h1.rs
  have HG := Lib.hid hg
  clear h1 hg
  obtain ⟨Nn, hNn⟩ : ∃ N, N = s.os.length := ⟨_, rfl⟩
  have HNN := Lib.hid hNn
  have hNl : Nn ≤ 1048576 := by rw [hNn]; exact HQ.out.ok.len
  clear hNn
  obtain ⟨oo, oc, HOB⟩ : ∃ oo oc, Hid (∀ W, Below w.heap.size w W → W.cell? ⟨gm, 2, none⟩ = some (.slice oo Nn oc)) := by
    obtain ⟨ms, ov, nv, hm⟩ := HQ.out
    obtain ⟨oo, oc, rfl⟩ := own_dslice hm.orow
    exact ⟨oo, oc, Lib.hid fun W hW => by have := (hm.below hW).boxf.1.2.2.1; rw [this, HNN.out, hm.len]⟩
  go_enter Try.func10, Try.ntmps10
  go_wp2_with fail
  refine (stused_any gs R s w HS.out).mono ?_
  rintro e w1 ⟨rfl, hb1⟩
  have HB1 := Lib.hid hb1
  clear hb1
  go_wp2_with fail
  refine (rused_any gm Q s w1 (HQ.out.below HB1.out)).mono ?_
  rintro e w2 ⟨rfl, hb2⟩
  have HB2' := Lib.hid (HB1.out.trans (hb2.mono HB1.out.size))
  clear hb2 HB1
  go_wp2_with fail
  go_loopw [5] (fun v wr => ∃ i : Nat, i ≤ Nn + 1 ∧ v = .int .i64 (i : Nat) ∧ Below w.heap.size w wr) (fun v _ => Nn + 1 - (intOf v).toNat)
  case atStart => exact ⟨0, Nat.zero_le _, rfl, HB2'.out⟩
  case round =>
    obtain ⟨i, hi, rfl, hbr⟩ := hrel
    have HBR := Lib.hid hbr
    clear hbr HB2'
    have m2 := HOB.out wr HBR.out
    by_cases hle : i ≤ Nn
    · have hii : ((i : Nat) : Int) ≤ ((Nn : Nat) : Int) := by omega
      have hsk : ∀ W, Below w.heap.size w W → Calls Try.prog 22 #[.pointer (some ⟨gs, 0, none⟩), .agg #[.int .i64 7, .int .i64 ((i : Nat) : Int)]] W fun e w' => e = .returned (.int .i64 (s.kind (7, ((i : Nat) : Int)))) ∧ Below W.heap.size W w' := fun W hW => stkind_any gs R s (7, ((i : Nat) : Int)) W (HS.out.below hW)
      have hrk : ∀ W, Below w.heap.size w W → Calls Try.prog 39 #[.pointer (some ⟨gm, 0, none⟩), .agg #[.int .i64 7, .int .i64 ((i : Nat) : Int)]] W fun e w' => e = .returned (.int .i64 (s.kind (7, ((i : Nat) : Int)))) ∧ Below W.heap.size W w' := fun W hW => rkind_any gm Q s (7, ((i : Nat) : Int)) W (HQ.out.below hW)
      have hsl : ∀ W, Below w.heap.size w W → Calls Try.prog 23 #[.pointer (some ⟨gs, 0, none⟩), .agg #[.int .i64 7, .int .i64 ((i : Nat) : Int)]] W fun e w' => e = .returned (.int .i64 (((s.slots (7, ((i : Nat) : Int))).length : Nat) : Int)) ∧ Below W.heap.size W w' := fun W hW => by rw [← slots_lenA]; exact stlen_any gs R s (7, ((i : Nat) : Int)) W (HS.out.below hW)
      have hss : ∀ W, Below w.heap.size w W → Calls Try.prog 11 #[.pointer (some ⟨gs, 0, none⟩), .agg #[.int .i64 7, .int .i64 ((i : Nat) : Int)]] W fun e w' => e = .returned (.bool (sdV s.os.length s.ns.length (7, ((i : Nat) : Int)))) ∧ Below W.heap.size W w' := fun W hW => stsound_any gs R s (7, ((i : Nat) : Int)) W (HS.out.below hW)
      have hrs : ∀ W, Below w.heap.size w W → Calls Try.prog 12 #[.pointer (some ⟨gm, 0, none⟩), .agg #[.int .i64 7, .int .i64 ((i : Nat) : Int)]] W fun e w' => e = .returned (.bool (sdV s.os.length s.ns.length (7, ((i : Nat) : Int)))) ∧ Below W.heap.size W w' := fun W hW => rsound_any gm Q s (7, ((i : Nat) : Int)) W (HQ.out.below hW)
      have hrl := fun W (hW : Below w.heap.size w W) => rslots_any gm Q s (7, ((i : Nat) : Int)) W (HQ.out.below hW)
      have hsg : ∀ W, Below w.heap.size w W → ∀ k (hk : k < (s.slots (7, ((i : Nat) : Int))).length), Calls Try.prog 17 #[.pointer (some ⟨gs, 0, none⟩), .agg #[.int .i64 7, .int .i64 ((i : Nat) : Int)], .int .i64 ((k : Nat) : Int)] W fun e w' => e = .returned (.tuple #[.agg #[.int .i64 ((s.slots (7, ((i : Nat) : Int)))[k]'hk).1, .int .i64 ((s.slots (7, ((i : Nat) : Int)))[k]'hk).2], .int .i64 0]) ∧ Below W.heap.size W w' := fun W hW k hk => by
        have h2 := stget_any gs R s (7, ((i : Nat) : Int)) ((k : Nat) : Int) W (HS.out.below hW)
        rw [slots_getA hk] at h2
        exact h2
      have hkl : (s.slots (7, ((i : Nat) : Int))).length ≤ 1048576 := by
        cases ho : s.obj (7, ((i : Nat) : Int)) with
        | none => unfold St.slots; rw [ho]; simp
        | some o =>
          rw [obj_slots ho]
          have hmem := List.mem_of_getElem? (St.obj_some ho).2.2.2
          have h2 := le_sum (f := Ob.c) s.os _ hmem
          have h3 := HQ.out.ok.cpos _ hmem
          have h4 := HQ.out.ok.UL
          have h5 := HQ.out.ok.LM
          have h6 := HQ.out.ok.sum
          omega
      have hpx : s.kind (7, ((i : Nat) : Int)) = 10 → ∃ p o, s.obj (7, ((i : Nat) : Int)) = some o ∧ o.k = 10 ∧ o.x = some p ∧ PxT p ∧ i < Nn := by
        intro hk
        cases ho : s.obj (7, ((i : Nat) : Int)) with
        | none => unfold St.kind at hk; rw [ho] at hk; simp at hk
        | some o =>
          rw [obj_kind ho] at hk
          have hmem := List.mem_of_getElem? (St.obj_some ho).2.2.2
          rcases HG.out.rk o hmem with ⟨h2, _⟩ | ⟨_, ⟨p, hp⟩, _⟩
          · exact absurd hk h2
          · have := (St.obj_some ho).2.2.1
            exact ⟨p, o, rfl, hk, hp, HG.out.px o hmem p hp, by rw [HNN.out]; simpa using this⟩
      have hno : s.kind (7, ((i : Nat) : Int)) ≠ 10 → ∀ o, s.obj (7, ((i : Nat) : Int)) = some o → o.k ≠ 10 := fun hk o ho e => hk (by rw [obj_kind ho]; exact e)
      have HSK := Lib.hid hsk
      have HRK := Lib.hid hrk
      have HSL := Lib.hid hsl
      have HSS := Lib.hid hss
      have HRS := Lib.hid hrs
      have HRL := Lib.hid hrl
      have HSG := Lib.hid hsg
      have HPX := Lib.hid hpx
      have HNO := Lib.hid hno
      clear hsk hrk hsl hss hrs hrl hsg hpx hno
      generalize s.kind (7, ((i : Nat) : Int)) = K at *
      generalize s.slots (7, ((i : Nat) : Int)) = sl at *
      generalize sdV s.os.length s.ns.length (7, ((i : Nat) : Int)) = q at *
      have HBA := Lib.hid (HBR.out.trans ((below1 wr (.cells #[.int .i64 7, .int .i64 ((i : Nat) : Int)] 35)).mono HBR.out.size))
      have HV := Lib.hid (box1 wr #[.int .i64 7, .int .i64 ((i : Nat) : Int)] 35)
      have hvb0 : w.heap.size ≤ wr.heap.size := HBR.out.size
      go_upto_region 7 with fail
      generalize wr.alloc (.cells #[.int .i64 7, .int .i64 ((i : Nat) : Int)] 35) = w3 at *
      generalize wr.heap.size = vb at *
      clear m2 HBR
      obtain ⟨p0, p1, _⟩ := row2 HV.out
      go_wp2_with fail
      refine (HRL.out w3 HBA.out).mono ?_
      rintro e w4 ⟨lv, rfl, hb4, hrow, _⟩
      obtain ⟨lo, lc, rfl⟩ := rowv_slice hrow
      have HB2 := Lib.hid (HBA.out.trans (hb4.mono HBA.out.size))
      have HV4 := Lib.hid ((hb4.block vb (Array.getElem?_eq_some_iff.1 HV.out).1).trans HV.out)
      have HROW := Lib.hid hrow
      have HV2 : Hid (∀ W, Below w4.heap.size w4 W → W.heap[vb]? = some (.cells #[.int .i64 7, .int .i64 ((i : Nat) : Int)] 35 (0, 0))) := Lib.hid fun W hW => (hW.block vb (Array.getElem?_eq_some_iff.1 HV4.out).1).trans HV4.out
      clear hb4 hrow p0 p1 HV HBA HRL HV4
      go_upto_region 8 with fail
      refine wp_region_slotsG (psi [isV (.pointer (some ⟨gs, 0, none⟩)), isV (.agg #[.int .i64 7, .int .i64 ((i : Nat) : Int)]), isV (.int .i64 K), isV (.pointer (some ⟨gm, 0, none⟩)), isV (.agg #[.int .i64 7, .int .i64 ((i : Nat) : Int)]), isV (.int .i64 K), isV (.bool false), isV (.bool false), isV (.pointer (some ⟨gs, 0, none⟩)), isV (.agg #[.int .i64 7, .int .i64 ((i : Nat) : Int)]), isV (.int .i64 ((sl.length : Nat) : Int)), isV (.slice lo sl.length lc), isV (.int .i64 ((sl.length : Nat) : Int)), isV (.bool false), isV (.bool false), isV (.bool false), isV (.pointer (some ⟨gs, 0, none⟩)), isV (.agg #[.int .i64 7, .int .i64 ((i : Nat) : Int)]), isV (.bool q), isV (.pointer (some ⟨gm, 0, none⟩)), isV (.agg #[.int .i64 7, .int .i64 ((i : Nat) : Int)]), isV (.bool q), isV (.bool false), isV (.bool false)]) (fun W => Below w4.heap.size w4 W) (by kernel_rfl) (Below.refl _ _).drew (psi_mono ?_) (by kernel_rfl) (by kernel_rfl) ?_ ?_
      · intro pq hp
        simp only [List.mem_cons, List.not_mem_nil, or_false] at hp
        (repeat' rcases hp with rfl | hp) <;> first | exact isV_stays _ | (subst hp; exact isV_stays _)
      · refine AllOps.cons ?_ ?_
        · intro ab W hC hB hdep
          refine .inl ⟨rfl, ?_⟩
          have b0 : ab.tmps.getD 0 undef = .pointer (some ⟨gs, 0, none⟩) := hB.off 0 (by kernel_rfl)
          clear hB hdep
          refine goes_value (v := .pointer (some ⟨gs, 0, none⟩)) ?_ hC rfl
          simp only [execOp, Act.eval, b0]
          go_simp
        refine AllOps.cons ?_ ?_
        · intro ab W hC hB hdep
          refine .inl ⟨rfl, ?_⟩
          have b0 : ab.tmps.getD 6 undef = .pointer (some ⟨vb, 0, none⟩) := hB.off 6 (by kernel_rfl)
          obtain ⟨p0, p1, _⟩ := row2 (HV2.out W hC)
          clear hB hdep
          refine goes_value (v := .agg #[.int .i64 7, .int .i64 ((i : Nat) : Int)]) ?_ hC rfl
          simp only [execOp, Act.eval, b0]
          go_simp
        refine AllOps.cons ?_ ?_
        · intro ab W hC hB hdep
          refine .inl ⟨rfl, ?_⟩
          obtain ⟨x0, (q0 : (isV (.pointer (some ⟨gs, 0, none⟩))) x0 W), e0⟩ := hdep 0 32 (by kernel_rfl)
          obtain rfl : x0 = .pointer (some ⟨gs, 0, none⟩) := q0
          obtain ⟨x1, (q1 : (isV (.agg #[.int .i64 7, .int .i64 ((i : Nat) : Int)])) x1 W), e1⟩ := hdep 1 33 (by kernel_rfl)
          obtain rfl : x1 = .agg #[.int .i64 7, .int .i64 ((i : Nat) : Int)] := q1
          clear hB hdep
          refine goes_call (f := 22) (args := #[.pointer (some ⟨gs, 0, none⟩), .agg #[.int .i64 7, .int .i64 ((i : Nat) : Int)]]) ?_ ?_
          · simp only [execOp]
            go_simp
          · exact (HSK.out W (HB2.out.trans (hC.mono HB2.out.size))).mono fun e w7 ⟨he, hb⟩ => ⟨_, he, hC.trans (hb.mono hC.size), hb, rfl⟩
        refine AllOps.cons ?_ ?_
        · intro ab W hC hB hdep
          refine .inl ⟨rfl, ?_⟩
          have b0 : ab.tmps.getD 1 undef = .pointer (some ⟨gm, 0, none⟩) := hB.off 1 (by kernel_rfl)
          clear hB hdep
          refine goes_value (v := .pointer (some ⟨gm, 0, none⟩)) ?_ hC rfl
          simp only [execOp, Act.eval, b0]
          go_simp
        refine AllOps.cons ?_ ?_
        · intro ab W hC hB hdep
          refine .inl ⟨rfl, ?_⟩
          have b0 : ab.tmps.getD 6 undef = .pointer (some ⟨vb, 0, none⟩) := hB.off 6 (by kernel_rfl)
          obtain ⟨p0, p1, _⟩ := row2 (HV2.out W hC)
          clear hB hdep
          refine goes_value (v := .agg #[.int .i64 7, .int .i64 ((i : Nat) : Int)]) ?_ hC rfl
          simp only [execOp, Act.eval, b0]
          go_simp
        refine AllOps.cons ?_ ?_
        · intro ab W hC hB hdep
          refine .inl ⟨rfl, ?_⟩
          obtain ⟨x0, (q0 : (isV (.pointer (some ⟨gm, 0, none⟩))) x0 W), e0⟩ := hdep 3 35 (by kernel_rfl)
          obtain rfl : x0 = .pointer (some ⟨gm, 0, none⟩) := q0
          obtain ⟨x1, (q1 : (isV (.agg #[.int .i64 7, .int .i64 ((i : Nat) : Int)])) x1 W), e1⟩ := hdep 4 36 (by kernel_rfl)
          obtain rfl : x1 = .agg #[.int .i64 7, .int .i64 ((i : Nat) : Int)] := q1
          clear hB hdep
          refine goes_call (f := 39) (args := #[.pointer (some ⟨gm, 0, none⟩), .agg #[.int .i64 7, .int .i64 ((i : Nat) : Int)]]) ?_ ?_
          · simp only [execOp]
            go_simp
          · exact (HRK.out W (HB2.out.trans (hC.mono HB2.out.size))).mono fun e w7 ⟨he, hb⟩ => ⟨_, he, hC.trans (hb.mono hC.size), hb, rfl⟩
        refine AllOps.cons ?_ ?_
        · intro ab W hC hB hdep
          refine .inl ⟨rfl, ?_⟩
          obtain ⟨x0, (q0 : (isV (.int .i64 K)) x0 W), e0⟩ := hdep 2 34 (by kernel_rfl)
          obtain rfl : x0 = .int .i64 K := q0
          obtain ⟨x1, (q1 : (isV (.int .i64 K)) x1 W), e1⟩ := hdep 5 37 (by kernel_rfl)
          obtain rfl : x1 = .int .i64 K := q1
          clear hB hdep
          refine goes_value (v := .bool false) ?_ hC rfl
          simp only [execOp, Act.eval, e0, e1]
          go_simp
        refine AllOps.cons ?_ ?_
        · intro ab W hC hB hdep
          refine .inl ⟨rfl, ?_⟩
          obtain ⟨x0, (q0 : (isV (.bool false)) x0 W), e0⟩ := hdep 6 38 (by kernel_rfl)
          obtain rfl : x0 = .bool false := q0
          clear hB hdep
          refine goes_value (v := .bool false) ?_ hC rfl
          simp only [execOp, Act.eval, e0]
          go_simp
        refine AllOps.cons ?_ ?_
        · intro ab W hC hB hdep
          obtain ⟨xg, (qg : xg = .bool false), eg⟩ := hdep 7 39 (by kernel_rfl)
          subst qg
          refine .inl ⟨((wanted_is (g := 7) (t := 39) (b := false) (c := false) rfl rfl (by rw [hB.size]; exact Nat.le_of_ble_eq_true rfl) eg).trans rfl), ?_⟩
          have b0 : ab.tmps.getD 0 undef = .pointer (some ⟨gs, 0, none⟩) := hB.off 0 (by kernel_rfl)
          clear hB hdep
          refine goes_value (v := .pointer (some ⟨gs, 0, none⟩)) ?_ hC rfl
          simp only [execOp, Act.eval, b0]
          go_simp
        refine AllOps.cons ?_ ?_
        · intro ab W hC hB hdep
          obtain ⟨xg, (qg : xg = .bool false), eg⟩ := hdep 7 39 (by kernel_rfl)
          subst qg
          refine .inl ⟨((wanted_is (g := 7) (t := 39) (b := false) (c := false) rfl rfl (by rw [hB.size]; exact Nat.le_of_ble_eq_true rfl) eg).trans rfl), ?_⟩
          have b0 : ab.tmps.getD 6 undef = .pointer (some ⟨vb, 0, none⟩) := hB.off 6 (by kernel_rfl)
          obtain ⟨p0, p1, _⟩ := row2 (HV2.out W hC)
          clear hB hdep
          refine goes_value (v := .agg #[.int .i64 7, .int .i64 ((i : Nat) : Int)]) ?_ hC rfl
          simp only [execOp, Act.eval, b0]
          go_simp
        refine AllOps.cons ?_ ?_
        · intro ab W hC hB hdep
          obtain ⟨xg, (qg : xg = .bool false), eg⟩ := hdep 7 39 (by kernel_rfl)
          subst qg
          refine .inl ⟨((wanted_is (g := 7) (t := 39) (b := false) (c := false) rfl rfl (by rw [hB.size]; exact Nat.le_of_ble_eq_true rfl) eg).trans rfl), ?_⟩
          obtain ⟨x0, (q0 : (isV (.pointer (some ⟨gs, 0, none⟩))) x0 W), e0⟩ := hdep 8 40 (by kernel_rfl)
          obtain rfl : x0 = .pointer (some ⟨gs, 0, none⟩) := q0
          obtain ⟨x1, (q1 : (isV (.agg #[.int .i64 7, .int .i64 ((i : Nat) : Int)])) x1 W), e1⟩ := hdep 9 41 (by kernel_rfl)
          obtain rfl : x1 = .agg #[.int .i64 7, .int .i64 ((i : Nat) : Int)] := q1
          clear hB hdep
          refine goes_call (f := 23) (args := #[.pointer (some ⟨gs, 0, none⟩), .agg #[.int .i64 7, .int .i64 ((i : Nat) : Int)]]) ?_ ?_
          · simp only [execOp]
            go_simp
          · exact (HSL.out W (HB2.out.trans (hC.mono HB2.out.size))).mono fun e w7 ⟨he, hb⟩ => ⟨_, he, hC.trans (hb.mono hC.size), hb, rfl⟩
        refine AllOps.cons ?_ ?_
        · intro ab W hC hB hdep
          obtain ⟨xg, (qg : xg = .bool false), eg⟩ := hdep 7 39 (by kernel_rfl)
          subst qg
          refine .inl ⟨((wanted_is (g := 7) (t := 39) (b := false) (c := false) rfl rfl (by rw [hB.size]; exact Nat.le_of_ble_eq_true rfl) eg).trans rfl), ?_⟩
          have b0 : ab.tmps.getD 7 undef = .slice lo sl.length lc := hB.off 7 (by kernel_rfl)
          clear hB hdep
          refine goes_value (v := .slice lo sl.length lc) ?_ hC rfl
          simp only [execOp, Act.eval, b0]
          go_simp
        refine AllOps.cons ?_ ?_
        · intro ab W hC hB hdep
          obtain ⟨xg, (qg : xg = .bool false), eg⟩ := hdep 7 39 (by kernel_rfl)
          subst qg
          refine .inl ⟨((wanted_is (g := 7) (t := 39) (b := false) (c := false) rfl rfl (by rw [hB.size]; exact Nat.le_of_ble_eq_true rfl) eg).trans rfl), ?_⟩
          obtain ⟨x0, (q0 : (isV (.slice lo sl.length lc)) x0 W), e0⟩ := hdep 11 43 (by kernel_rfl)
          obtain rfl : x0 = .slice lo sl.length lc := q0
          clear hB hdep
          refine goes_value (v := .int .i64 ((sl.length : Nat) : Int)) ?_ hC rfl
          simp only [execOp, Act.eval, e0]
          go_simp
        refine AllOps.cons ?_ ?_
        · intro ab W hC hB hdep
          obtain ⟨xg, (qg : xg = .bool false), eg⟩ := hdep 7 39 (by kernel_rfl)
          subst qg
          refine .inl ⟨((wanted_is (g := 7) (t := 39) (b := false) (c := false) rfl rfl (by rw [hB.size]; exact Nat.le_of_ble_eq_true rfl) eg).trans rfl), ?_⟩
          obtain ⟨x0, (q0 : (isV (.int .i64 ((sl.length : Nat) : Int))) x0 W), e0⟩ := hdep 10 42 (by kernel_rfl)
          obtain rfl : x0 = .int .i64 ((sl.length : Nat) : Int) := q0
          obtain ⟨x1, (q1 : (isV (.int .i64 ((sl.length : Nat) : Int))) x1 W), e1⟩ := hdep 12 44 (by kernel_rfl)
          obtain rfl : x1 = .int .i64 ((sl.length : Nat) : Int) := q1
          clear hB hdep
          refine goes_value (v := .bool false) ?_ hC rfl
          simp only [execOp, Act.eval, e0, e1]
          go_simp
        refine AllOps.cons ?_ ?_
        · intro ab W hC hB hdep
          refine .inl ⟨rfl, ?_⟩
          obtain ⟨x0, (q0 : (isV (.bool false)) x0 W), e0⟩ := hdep 7 39 (by kernel_rfl)
          obtain rfl : x0 = .bool false := q0
          obtain ⟨x1, (q1 : (isV (.bool false)) x1 W), e1⟩ := hdep 13 45 (by kernel_rfl)
          obtain rfl : x1 = .bool false := q1
          clear hB hdep
          refine goes_value (v := .bool false) ?_ hC rfl
          simp only [execOp, Act.eval, e0, e1]
          go_simp
        refine AllOps.cons ?_ ?_
        · intro ab W hC hB hdep
          refine .inl ⟨rfl, ?_⟩
          obtain ⟨x0, (q0 : (isV (.bool false)) x0 W), e0⟩ := hdep 14 46 (by kernel_rfl)
          obtain rfl : x0 = .bool false := q0
          clear hB hdep
          refine goes_value (v := .bool false) ?_ hC rfl
          simp only [execOp, Act.eval, e0]
          go_simp
        refine AllOps.cons ?_ ?_
        · intro ab W hC hB hdep
          obtain ⟨xg, (qg : xg = .bool false), eg⟩ := hdep 15 47 (by kernel_rfl)
          subst qg
          refine .inl ⟨((wanted_is (g := 15) (t := 47) (b := false) (c := false) rfl rfl (by rw [hB.size]; exact Nat.le_of_ble_eq_true rfl) eg).trans rfl), ?_⟩
          have b0 : ab.tmps.getD 0 undef = .pointer (some ⟨gs, 0, none⟩) := hB.off 0 (by kernel_rfl)
          clear hB hdep
          refine goes_value (v := .pointer (some ⟨gs, 0, none⟩)) ?_ hC rfl
          simp only [execOp, Act.eval, b0]
          go_simp
        refine AllOps.cons ?_ ?_
        · intro ab W hC hB hdep
          obtain ⟨xg, (qg : xg = .bool false), eg⟩ := hdep 15 47 (by kernel_rfl)
          subst qg
          refine .inl ⟨((wanted_is (g := 15) (t := 47) (b := false) (c := false) rfl rfl (by rw [hB.size]; exact Nat.le_of_ble_eq_true rfl) eg).trans rfl), ?_⟩
          have b0 : ab.tmps.getD 6 undef = .pointer (some ⟨vb, 0, none⟩) := hB.off 6 (by kernel_rfl)
          obtain ⟨p0, p1, _⟩ := row2 (HV2.out W hC)
          clear hB hdep
          refine goes_value (v := .agg #[.int .i64 7, .int .i64 ((i : Nat) : Int)]) ?_ hC rfl
          simp only [execOp, Act.eval, b0]
          go_simp
        refine AllOps.cons ?_ ?_
        · intro ab W hC hB hdep
          obtain ⟨xg, (qg : xg = .bool false), eg⟩ := hdep 15 47 (by kernel_rfl)
          subst qg
          refine .inl ⟨((wanted_is (g := 15) (t := 47) (b := false) (c := false) rfl rfl (by rw [hB.size]; exact Nat.le_of_ble_eq_true rfl) eg).trans rfl), ?_⟩
          obtain ⟨x0, (q0 : (isV (.pointer (some ⟨gs, 0, none⟩))) x0 W), e0⟩ := hdep 16 48 (by kernel_rfl)
          obtain rfl : x0 = .pointer (some ⟨gs, 0, none⟩) := q0
          obtain ⟨x1, (q1 : (isV (.agg #[.int .i64 7, .int .i64 ((i : Nat) : Int)])) x1 W), e1⟩ := hdep 17 49 (by kernel_rfl)
          obtain rfl : x1 = .agg #[.int .i64 7, .int .i64 ((i : Nat) : Int)] := q1
          clear hB hdep
          refine goes_call (f := 11) (args := #[.pointer (some ⟨gs, 0, none⟩), .agg #[.int .i64 7, .int .i64 ((i : Nat) : Int)]]) ?_ ?_
          · simp only [execOp]
            go_simp
          · exact (HSS.out W (HB2.out.trans (hC.mono HB2.out.size))).mono fun e w7 ⟨he, hb⟩ => ⟨_, he, hC.trans (hb.mono hC.size), hb, rfl⟩
        refine AllOps.cons ?_ ?_
        · intro ab W hC hB hdep
          obtain ⟨xg, (qg : xg = .bool false), eg⟩ := hdep 15 47 (by kernel_rfl)
          subst qg
          refine .inl ⟨((wanted_is (g := 15) (t := 47) (b := false) (c := false) rfl rfl (by rw [hB.size]; exact Nat.le_of_ble_eq_true rfl) eg).trans rfl), ?_⟩
          have b0 : ab.tmps.getD 1 undef = .pointer (some ⟨gm, 0, none⟩) := hB.off 1 (by kernel_rfl)
          clear hB hdep
          refine goes_value (v := .pointer (some ⟨gm, 0, none⟩)) ?_ hC rfl
          simp only [execOp, Act.eval, b0]
          go_simp
        refine AllOps.cons ?_ ?_
        · intro ab W hC hB hdep
          obtain ⟨xg, (qg : xg = .bool false), eg⟩ := hdep 15 47 (by kernel_rfl)
          subst qg
          refine .inl ⟨((wanted_is (g := 15) (t := 47) (b := false) (c := false) rfl rfl (by rw [hB.size]; exact Nat.le_of_ble_eq_true rfl) eg).trans rfl), ?_⟩
          have b0 : ab.tmps.getD 6 undef = .pointer (some ⟨vb, 0, none⟩) := hB.off 6 (by kernel_rfl)
          obtain ⟨p0, p1, _⟩ := row2 (HV2.out W hC)
          clear hB hdep
          refine goes_value (v := .agg #[.int .i64 7, .int .i64 ((i : Nat) : Int)]) ?_ hC rfl
          simp only [execOp, Act.eval, b0]
          go_simp
        refine AllOps.cons ?_ ?_
        · intro ab W hC hB hdep
          obtain ⟨xg, (qg : xg = .bool false), eg⟩ := hdep 15 47 (by kernel_rfl)
          subst qg
          refine .inl ⟨((wanted_is (g := 15) (t := 47) (b := false) (c := false) rfl rfl (by rw [hB.size]; exact Nat.le_of_ble_eq_true rfl) eg).trans rfl), ?_⟩
          obtain ⟨x0, (q0 : (isV (.pointer (some ⟨gm, 0, none⟩))) x0 W), e0⟩ := hdep 19 51 (by kernel_rfl)
          obtain rfl : x0 = .pointer (some ⟨gm, 0, none⟩) := q0
          obtain ⟨x1, (q1 : (isV (.agg #[.int .i64 7, .int .i64 ((i : Nat) : Int)])) x1 W), e1⟩ := hdep 20 52 (by kernel_rfl)
          obtain rfl : x1 = .agg #[.int .i64 7, .int .i64 ((i : Nat) : Int)] := q1
          clear hB hdep
          refine goes_call (f := 12) (args := #[.pointer (some ⟨gm, 0, none⟩), .agg #[.int .i64 7, .int .i64 ((i : Nat) : Int)]]) ?_ ?_
          · simp only [execOp]
            go_simp
          · exact (HRS.out W (HB2.out.trans (hC.mono HB2.out.size))).mono fun e w7 ⟨he, hb⟩ => ⟨_, he, hC.trans (hb.mono hC.size), hb, rfl⟩
        refine AllOps.cons ?_ ?_
        · intro ab W hC hB hdep
          obtain ⟨xg, (qg : xg = .bool false), eg⟩ := hdep 15 47 (by kernel_rfl)
          subst qg
          refine .inl ⟨((wanted_is (g := 15) (t := 47) (b := false) (c := false) rfl rfl (by rw [hB.size]; exact Nat.le_of_ble_eq_true rfl) eg).trans rfl), ?_⟩
          obtain ⟨x0, (q0 : (isV (.bool q)) x0 W), e0⟩ := hdep 18 50 (by kernel_rfl)
          obtain rfl : x0 = .bool q := q0
          obtain ⟨x1, (q1 : (isV (.bool q)) x1 W), e1⟩ := hdep 21 53 (by kernel_rfl)
          obtain rfl : x1 = .bool q := q1
          clear hB hdep
          refine goes_value (v := .bool false) ?_ hC rfl
          simp only [execOp, Act.eval, e0, e1]
          go_simp
        refine AllOps.cons ?_ ?_
        · intro ab W hC hB hdep
          refine .inl ⟨rfl, ?_⟩
          obtain ⟨x0, (q0 : (isV (.bool false)) x0 W), e0⟩ := hdep 15 47 (by kernel_rfl)
          obtain rfl : x0 = .bool false := q0
          obtain ⟨x1, (q1 : (isV (.bool false)) x1 W), e1⟩ := hdep 22 54 (by kernel_rfl)
          obtain rfl : x1 = .bool false := q1
          clear hB hdep
          refine goes_value (v := .bool false) ?_ hC rfl
          simp only [execOp, Act.eval, e0, e1]
          go_simp
        exact trivial
      · intro aa w5 hC hB hall
        obtain ⟨v0, (k0 : v0 = .pointer (some ⟨gs, 0, none⟩)), e0⟩ := hall 0 _ rfl
        obtain ⟨v1, (k1 : v1 = .agg #[.int .i64 7, .int .i64 ((i : Nat) : Int)]), e1⟩ := hall 1 _ rfl
        obtain ⟨v2, (k2 : v2 = .int .i64 K), e2⟩ := hall 2 _ rfl
        obtain ⟨v3, (k3 : v3 = .pointer (some ⟨gm, 0, none⟩)), e3⟩ := hall 3 _ rfl
        obtain ⟨v4, (k4 : v4 = .agg #[.int .i64 7, .int .i64 ((i : Nat) : Int)]), e4⟩ := hall 4 _ rfl
        obtain ⟨v5, (k5 : v5 = .int .i64 K), e5⟩ := hall 5 _ rfl
        obtain ⟨v6, (k6 : v6 = .bool false), e6⟩ := hall 6 _ rfl
        obtain ⟨v7, (k7 : v7 = .bool false), e7⟩ := hall 7 _ rfl
        obtain ⟨v8, (k8 : v8 = .pointer (some ⟨gs, 0, none⟩)), e8⟩ := hall 8 _ rfl
        obtain ⟨v9, (k9 : v9 = .agg #[.int .i64 7, .int .i64 ((i : Nat) : Int)]), e9⟩ := hall 9 _ rfl
        obtain ⟨v10, (k10 : v10 = .int .i64 ((sl.length : Nat) : Int)), e10⟩ := hall 10 _ rfl
        obtain ⟨v11, (k11 : v11 = .slice lo sl.length lc), e11⟩ := hall 11 _ rfl
        obtain ⟨v12, (k12 : v12 = .int .i64 ((sl.length : Nat) : Int)), e12⟩ := hall 12 _ rfl
        obtain ⟨v13, (k13 : v13 = .bool false), e13⟩ := hall 13 _ rfl
        obtain ⟨v14, (k14 : v14 = .bool false), e14⟩ := hall 14 _ rfl
        obtain ⟨v15, (k15 : v15 = .bool false), e15⟩ := hall 15 _ rfl
        obtain ⟨v16, (k16 : v16 = .pointer (some ⟨gs, 0, none⟩)), e16⟩ := hall 16 _ rfl
        obtain ⟨v17, (k17 : v17 = .agg #[.int .i64 7, .int .i64 ((i : Nat) : Int)]), e17⟩ := hall 17 _ rfl
        obtain ⟨v18, (k18 : v18 = .bool q), e18⟩ := hall 18 _ rfl
        obtain ⟨v19, (k19 : v19 = .pointer (some ⟨gm, 0, none⟩)), e19⟩ := hall 19 _ rfl
        obtain ⟨v20, (k20 : v20 = .agg #[.int .i64 7, .int .i64 ((i : Nat) : Int)]), e20⟩ := hall 20 _ rfl
        obtain ⟨v21, (k21 : v21 = .bool q), e21⟩ := hall 21 _ rfl
        obtain ⟨v22, (k22 : v22 = .bool false), e22⟩ := hall 22 _ rfl
        obtain ⟨v23, (k23 : v23 = .bool false), e23⟩ := hall 23 _ rfl
        subst k0 k1 k2 k3 k4 k5 k6 k7 k8 k9 k10 k11 k12 k13 k14 k15 k16 k17 k18 k19 k20 k21 k22 k23
        have hv : ∀ pq ∈ [((32 : Nat), (.pointer (some ⟨gs, 0, none⟩) : Value)), ((33 : Nat), (.agg #[.int .i64 7, .int .i64 ((i : Nat) : Int)] : Value)), ((34 : Nat), (.int .i64 K : Value)), ((35 : Nat), (.pointer (some ⟨gm, 0, none⟩) : Value)), ((36 : Nat), (.agg #[.int .i64 7, .int .i64 ((i : Nat) : Int)] : Value)), ((37 : Nat), (.int .i64 K : Value)), ((38 : Nat), (.bool false : Value)), ((39 : Nat), (.bool false : Value)), ((40 : Nat), (.pointer (some ⟨gs, 0, none⟩) : Value)), ((41 : Nat), (.agg #[.int .i64 7, .int .i64 ((i : Nat) : Int)] : Value)), ((42 : Nat), (.int .i64 ((sl.length : Nat) : Int) : Value)), ((43 : Nat), (.slice lo sl.length lc : Value)), ((44 : Nat), (.int .i64 ((sl.length : Nat) : Int) : Value)), ((45 : Nat), (.bool false : Value)), ((46 : Nat), (.bool false : Value)), ((47 : Nat), (.bool false : Value)), ((48 : Nat), (.pointer (some ⟨gs, 0, none⟩) : Value)), ((49 : Nat), (.agg #[.int .i64 7, .int .i64 ((i : Nat) : Int)] : Value)), ((50 : Nat), (.bool q : Value)), ((51 : Nat), (.pointer (some ⟨gm, 0, none⟩) : Value)), ((52 : Nat), (.agg #[.int .i64 7, .int .i64 ((i : Nat) : Int)] : Value)), ((53 : Nat), (.bool q : Value)), ((54 : Nat), (.bool false : Value)), ((55 : Nat), (.bool false : Value))], aa.tmps.getD pq.1 undef = pq.2 := by
          intro pq hp
          simp only [List.mem_cons, List.not_mem_nil, or_false] at hp
          rcases hp with rfl | rfl | rfl | rfl | rfl | rfl | rfl | rfl | rfl | rfl | rfl | rfl | rfl | rfl | rfl | rfl | rfl | rfl | rfl | rfl | rfl | rfl | rfl | rfl
          · exact e0 _ rfl
          · exact e1 _ rfl
          · exact e2 _ rfl
          · exact e3 _ rfl
          · exact e4 _ rfl
          · exact e5 _ rfl
          · exact e6 _ rfl
          · exact e7 _ rfl
          · exact e8 _ rfl
          · exact e9 _ rfl
          · exact e10 _ rfl
          · exact e11 _ rfl
          · exact e12 _ rfl
          · exact e13 _ rfl
          · exact e14 _ rfl
          · exact e15 _ rfl
          · exact e16 _ rfl
          · exact e17 _ rfl
          · exact e18 _ rfl
          · exact e19 _ rfl
          · exact e20 _ rfl
          · exact e21 _ rfl
          · exact e22 _ rfl
          · exact e23 _ rfl
        have hact := act_fold _ hB hv (by kernel_rfl)
        subst hact
        clear hv hall hB e0 e1 e2 e3 e4 e5 e6 e7 e8 e9 e10 e11 e12 e13 e14 e15 e16 e17 e18 e19 e20 e21 e22 e23
        refine (‹∀ (a : Act) (w : World), Code.wp Try.prog _ _ a w → _›) _ w5 ?_
        simp only [List.foldl, List.setIfInBounds_toArray, List.set_cons_succ, List.set_cons_zero]
        have HB5 := Lib.hid (HB2.out.trans (hC.mono HB2.out.size))
        have HV5 := Lib.hid (HV2.out w5 hC)
        have HROW5 := Lib.hid (HROW.out.below hC)
        clear hC HB2 HV2 HROW HSK HSL HSS HRS
        go_wp2_with fail
        go_loopw [8] (fun v wz => ∃ k : Nat, k ≤ sl.length ∧ v = .int .i64 (k : Nat) ∧ Below w5.heap.size w5 wz) (fun v _ => sl.length - (intOf v).toNat)
        case atStart => exact ⟨0, Nat.zero_le _, rfl, Below.refl _ _⟩
        case round =>
          obtain ⟨k, hk, rfl, hbz⟩ := hrel
          have HBZ := Lib.hid hbz
          clear hbz
          by_cases hkk : k < sl.length
          · have hki : ((k : Nat) : Int) < ((sl.length : Nat) : Int) := by omega
            have hge := HSG.out wr (HB5.out.trans (HBZ.out.mono HB5.out.size)) k hkk
            obtain ⟨rb, ro, rc2, e1, hrb, c0, c1⟩ := row_pair HROW5.out rfl hkk
            injection e1 with e11 _ e13
            subst e11 e13
            generalize sl[k]'hkk = x at *
            obtain ⟨k0, k1⟩ := x
            simp only at c0 c1 hge
            have HGE := Lib.hid hge
            have HC01 := Lib.hid (And.intro hrb (And.intro c0 c1))
            clear hge c0 c1 hrb
            have hv := (HBZ.out.block vb (Array.getElem?_eq_some_iff.1 HV5.out).1).trans HV5.out
            obtain ⟨p0, p1, _⟩ := row2 hv
            clear hv
            go_wp2_with fail
            refine HGE.out.mono ?_
            rintro e w6 ⟨rfl, hb6⟩
            have HB6 := Lib.hid (HBZ.out.trans (hb6.mono HBZ.out.size))
            clear hb6 p0 p1 HBZ HGE
            have HXN := Lib.hid (box1 w6 #[.int .i64 k0, .int .i64 k1] 35)
            have HBN := Lib.hid (HB6.out.trans ((below1 w6 (.cells #[.int .i64 k0, .int .i64 k1] 35)).mono HB6.out.size))
            go_upto_region 14 with fail
            generalize w6.alloc (.cells #[.int .i64 k0, .int .i64 k1] 35) = w7 at *
            generalize w6.heap.size = xb at *
            have HXB : Hid (∀ W, Below w7.heap.size w7 W → W.heap[xb]? = some (.cells #[.int .i64 k0, .int .i64 k1] 35 (0, 0))) := Lib.hid fun W hW => (hW.block xb (Array.getElem?_eq_some_iff.1 HXN.out).1).trans HXN.out
            have HRW : Hid (∀ W, Below w7.heap.size w7 W → W.cell? ⟨rb, ro + k * 2, none⟩ = some (.int .i64 k0) ∧ W.cell? ⟨rb, ro + k * 2 + 1, none⟩ = some (.int .i64 k1)) := Lib.hid fun W hW => by
              have h1 := HBN.out.trans (hW.mono HBN.out.size)
              exact ⟨(h1.cell (p := ⟨rb, _, none⟩) HC01.out.1).trans HC01.out.2.1, (h1.cell (p := ⟨rb, _, none⟩) HC01.out.1).trans HC01.out.2.2⟩
            obtain ⟨y0, y1, _⟩ := row2 (HXB.out w7 (Below.refl _ _))
            obtain ⟨y2, y3⟩ := HRW.out w7 (Below.refl _ _)
            clear HXN HC01 HB6 HXB HRW
            go_region
            go_wp2_with fail
            go_roundw
            case measure => simp only [intOf]; omega
            case rel => exact ⟨k + 1, by omega, by go_num, by first | exact HBN.out | exact below_drewN HBN.out _ | exact HBN.out.drew⟩
          · have hkg : ¬ ((k : Nat) : Int) < ((sl.length : Nat) : Int) := by omega
            have HBZ5 := Lib.hid (HB5.out.trans (HBZ.out.mono HB5.out.size))
            have hv := (HBZ.out.block vb (Array.getElem?_eq_some_iff.1 HV5.out).1).trans HV5.out
            have HVZ := Lib.hid hv
            obtain ⟨p0, p1, _⟩ := row2 hv
            clear hv HSG HROW5 HBZ HV5 hkk hk
            by_cases hK : K = 10
            · subst hK
              obtain ⟨p, o, ho, hok, hox, hpt, hiN⟩ := HPX.out rfl
              have hcc := stunwrap_ok gs R s (7, ((i : Nat) : Int)) o p wr (HS.out.below HBZ5.out) ho hok hox (by have := hpt.2; omega) (by obtain ⟨u, e⟩ := hpt.1; rw [e]; exact Nat.zero_le _) (by obtain ⟨u, e⟩ := hpt.1; rw [e]; exact Nat.zero_le _) (by obtain ⟨u, e⟩ := hpt.1; rw [e]; exact Nat.zero_le _)
              simp only [vV] at hcc
              have HCC := Lib.hid hcc
              have hii2 : ((i : Nat) : Int) < ((Nn : Nat) : Int) := by omega
              obtain ⟨jb, hoo, HJB⟩ : ∃ jb, oo = some ⟨jb, 0, none⟩ ∧ Hid (∀ W, Below w.heap.size w W → W.cell? ⟨jb, i * 10 + 3, none⟩ = some (.string p.t)) := by
                obtain ⟨ms, ov, nv, hm⟩ := HQ.out
                have him : i < ms.length := by rw [← hm.len, ← HNN.out]; exact hiN
                obtain ⟨b, cap, hov, _, _, _, _, _⟩ := hm.objAt him
                have h1 := HOB.out w (Below.refl _ _)
                have h2 := hm.boxf.1.2.2.1
                rw [h2, hov] at h1
                injection h1 with h1
                injection h1 with h1 _ _
                refine ⟨b, h1.symm, Lib.hid fun W hW => ?_⟩
                have hoe : (ms[i]'him).o = o := by
                  have h3 := (St.obj_some ho).2.2.2
                  rw [hm.eqs] at h3
                  simp [him] at h3
                  exact h3
                have h4 := roLs_get ms i him 3 (by omega)
                have h5 : (roL (ms[i]'him))[3]? = some (.string p.t) := by simp [roL, hoe, hox, pxC]
                have h6 := (hm.below hW).orow.cells (g := b) (by rw [hov]; rfl) _ _ (h4.trans h5)
                rwa [Addr.add_mid, Nat.zero_add] at h6
              subst hoo
              clear hcc ho hok hox hpt hiN HPX HNO
              go_wp2_with fail
              refine HCC.out.mono ?_
              rintro e w9 ⟨⟨lv, xo, xc, mv, sv, rfl, hown⟩, hb9⟩
              obtain ⟨lo9, lc9, rfl⟩ := own_dslice hown.1
              obtain ⟨mo9, mc9, rfl⟩ := own_dslice hown.2.2.1
              obtain ⟨so9, sc9, rfl⟩ := own_dslice hown.2.2.2
              have HBU := Lib.hid (HBZ5.out.trans (hb9.mono HBZ5.out.size))
              have HVU := Lib.hid ((hb9.block vb (Array.getElem?_eq_some_iff.1 HVZ.out).1).trans HVZ.out)
              clear hb9 hown HCC p0 p1 HVZ
              have HUN := Lib.hid (heap_alloc_new w9 (.cells #[.int .i64 p.k, .string p.t, .bool p.ng, .slice lo9 p.lm.length lc9, .slice xo 0 xc, .int .i64 p.a, .slice mo9 p.ms.length mc9, .slice so9 p.sb.length sc9] 50))
              have hbn := below1 w9 (.cells #[.int .i64 p.k, .string p.t, .bool p.ng, .slice lo9 p.lm.length lc9, .slice xo 0 xc, .int .i64 p.a, .slice mo9 p.ms.length mc9, .slice so9 p.sb.length sc9] 50)
              have HB9 := Lib.hid (HBU.out.trans (hbn.mono HBU.out.size))
              have HV9 := Lib.hid ((hbn.block vb (Array.getElem?_eq_some_iff.1 HVU.out).1).trans HVU.out)
              clear hbn HVU
              go_upto_region 17 with fail
              generalize w9.alloc (.cells #[.int .i64 p.k, .string p.t, .bool p.ng, .slice lo9 p.lm.length lc9, .slice xo 0 xc, .int .i64 p.a, .slice mo9 p.ms.length mc9, .slice so9 p.sb.length sc9] 50) = w10 at *
              generalize w9.heap.size = ub at *
              have HV6 : Hid (∀ W, Below w10.heap.size w10 W → W.heap[vb]? = some (.cells #[.int .i64 7, .int .i64 ((i : Nat) : Int)] 35 (0, 0))) := Lib.hid fun W hW => (hW.block vb (Array.getElem?_eq_some_iff.1 HV9.out).1).trans HV9.out
              have HUB : Hid (∀ W, Below w10.heap.size w10 W → W.cell? ⟨ub, 1, none⟩ = some (.string p.t)) := Lib.hid fun W hW => cell_heap ((hW.block ub (Array.getElem?_eq_some_iff.1 HUN.out).1).trans HUN.out) 1
              refine wp_region_slotsG (psi [isV (.pointer (some ⟨gm, 0, none⟩)), isV (.agg #[.int .i64 7, .int .i64 ((i : Nat) : Int)]), isV (.int .i64 10), isV (.bool true), isV (.bool true), isV (.int .i64 0), isV (.bool false), isV (.bool false), isV (.pointer (some ⟨ub, 1, none⟩)), isV (.string p.t), isV (.pointer (some ⟨gm, 0, none⟩)), isV (.pointer (some ⟨gm, 0, none⟩)), isV (.pointer (some ⟨gm, 2, none⟩)), isV (.slice (some ⟨jb, 0, none⟩) Nn oc), isV (.int .i64 ((i : Nat) : Int)), isV (.pointer (some ⟨jb, i * 10, none⟩)), isV (.pointer (some ⟨jb, i * 10 + 2, none⟩)), isV (.pointer (some ⟨jb, i * 10 + 3, none⟩)), isV (.string p.t), isV (.bool false), isV (.bool false), isV (.bool false), isV (.bool false), isV (.pointer (some ⟨gm, 0, none⟩)), isV (.agg #[.int .i64 7, .int .i64 ((i : Nat) : Int)]), isV (.int .i64 10), isV (.bool false), isV (.bool false), isV undef, isV undef, isV (.bool false), isV (.bool false)]) (fun W => Below w10.heap.size w10 W) (by kernel_rfl) (Below.refl _ _).drew (psi_mono ?_) (by kernel_rfl) (by kernel_rfl) ?_ ?_
              · intro pq hp
                simp only [List.mem_cons, List.not_mem_nil, or_false] at hp
                (repeat' rcases hp with rfl | hp) <;> first | exact isV_stays _ | (subst hp; exact isV_stays _)
              · refine AllOps.cons ?_ ?_
                · intro ab W hC hB hdep
                  refine .inl ⟨rfl, ?_⟩
                  have b0 : ab.tmps.getD 1 undef = .pointer (some ⟨gm, 0, none⟩) := hB.off 1 (by kernel_rfl)
                  clear hB hdep
                  refine goes_value (v := .pointer (some ⟨gm, 0, none⟩)) ?_ hC rfl
                  simp only [execOp, Act.eval, b0]
                  go_simp
                refine AllOps.cons ?_ ?_
                · intro ab W hC hB hdep
                  refine .inl ⟨rfl, ?_⟩
                  have b0 : ab.tmps.getD 6 undef = .pointer (some ⟨vb, 0, none⟩) := hB.off 6 (by kernel_rfl)
                  obtain ⟨p0, p1, _⟩ := row2 (HV6.out W hC)
                  clear hB hdep
                  refine goes_value (v := .agg #[.int .i64 7, .int .i64 ((i : Nat) : Int)]) ?_ hC rfl
                  simp only [execOp, Act.eval, b0]
                  go_simp
                refine AllOps.cons ?_ ?_
                · intro ab W hC hB hdep
                  refine .inl ⟨rfl, ?_⟩
                  obtain ⟨x0, (q0 : (isV (.pointer (some ⟨gm, 0, none⟩))) x0 W), e0⟩ := hdep 0 85 (by kernel_rfl)
                  obtain rfl : x0 = .pointer (some ⟨gm, 0, none⟩) := q0
                  obtain ⟨x1, (q1 : (isV (.agg #[.int .i64 7, .int .i64 ((i : Nat) : Int)])) x1 W), e1⟩ := hdep 1 86 (by kernel_rfl)
                  obtain rfl : x1 = .agg #[.int .i64 7, .int .i64 ((i : Nat) : Int)] := q1
                  clear hB hdep
                  refine goes_call (f := 39) (args := #[.pointer (some ⟨gm, 0, none⟩), .agg #[.int .i64 7, .int .i64 ((i : Nat) : Int)]]) ?_ ?_
                  · simp only [execOp]
                    go_simp
                  · exact (HRK.out W (HB9.out.trans (hC.mono HB9.out.size))).mono fun e w7 ⟨he, hb⟩ => ⟨_, he, hC.trans (hb.mono hC.size), hb, rfl⟩
                refine AllOps.cons ?_ ?_
                · intro ab W hC hB hdep
                  refine .inl ⟨rfl, ?_⟩
                  obtain ⟨x0, (q0 : (isV (.int .i64 10)) x0 W), e0⟩ := hdep 2 87 (by kernel_rfl)
                  obtain rfl : x0 = .int .i64 10 := q0
                  clear hB hdep
                  refine goes_value (v := .bool true) ?_ hC rfl
                  simp only [execOp, Act.eval, e0]
                  go_simp
                refine AllOps.cons ?_ ?_
                · intro ab W hC hB hdep
                  refine .inl ⟨rfl, ?_⟩
                  obtain ⟨x0, (q0 : (isV (.bool true)) x0 W), e0⟩ := hdep 3 88 (by kernel_rfl)
                  obtain rfl : x0 = .bool true := q0
                  clear hB hdep
                  refine goes_value (v := .bool true) ?_ hC rfl
                  simp only [execOp, Act.eval, e0]
                  go_simp
                refine AllOps.cons ?_ ?_
                · intro ab W hC hB hdep
                  obtain ⟨xg, (qg : xg = .bool true), eg⟩ := hdep 4 89 (by kernel_rfl)
                  subst qg
                  refine .inl ⟨((wanted_is (g := 4) (t := 89) (b := true) (c := true) rfl rfl (by rw [hB.size]; exact Nat.le_of_ble_eq_true rfl) eg).trans rfl), ?_⟩
                  have b0 : ab.tmps.getD 12 undef = .int .i64 0 := hB.off 12 (by kernel_rfl)
                  clear hB hdep
                  refine goes_value (v := .int .i64 0) ?_ hC rfl
                  simp only [execOp, Act.eval, b0]
                  go_simp
                refine AllOps.cons ?_ ?_
                · intro ab W hC hB hdep
                  obtain ⟨xg, (qg : xg = .bool true), eg⟩ := hdep 4 89 (by kernel_rfl)
                  subst qg
                  refine .inl ⟨((wanted_is (g := 4) (t := 89) (b := true) (c := true) rfl rfl (by rw [hB.size]; exact Nat.le_of_ble_eq_true rfl) eg).trans rfl), ?_⟩
                  obtain ⟨x0, (q0 : (isV (.int .i64 0)) x0 W), e0⟩ := hdep 5 90 (by kernel_rfl)
                  obtain rfl : x0 = .int .i64 0 := q0
                  clear hB hdep
                  refine goes_value (v := .bool false) ?_ hC rfl
                  simp only [execOp, Act.eval, e0]
                  go_simp
                refine AllOps.cons ?_ ?_
                · intro ab W hC hB hdep
                  obtain ⟨xg, (qg : xg = .bool true), eg⟩ := hdep 4 89 (by kernel_rfl)
                  subst qg
                  refine .inl ⟨((wanted_is (g := 4) (t := 89) (b := true) (c := true) rfl rfl (by rw [hB.size]; exact Nat.le_of_ble_eq_true rfl) eg).trans rfl), ?_⟩
                  obtain ⟨x0, (q0 : (isV (.bool false)) x0 W), e0⟩ := hdep 6 91 (by kernel_rfl)
                  obtain rfl : x0 = .bool false := q0
                  clear hB hdep
                  refine goes_value (v := .bool false) ?_ hC rfl
                  simp only [execOp, Act.eval, e0]
                  go_simp
                refine AllOps.cons ?_ ?_
                · intro ab W hC hB hdep
                  obtain ⟨xg, (qg : xg = .bool false), eg⟩ := hdep 7 92 (by kernel_rfl)
                  subst qg
                  refine .inl ⟨((wanted_is (g := 7) (t := 92) (b := false) (c := false) rfl rfl (by rw [hB.size]; exact Nat.le_of_ble_eq_true rfl) eg).trans rfl), ?_⟩
                  have b0 : ab.tmps.getD 11 undef = .pointer (some ⟨ub, 0, none⟩) := hB.off 11 (by kernel_rfl)
                  clear hB hdep
                  refine goes_value (v := .pointer (some ⟨ub, 1, none⟩)) ?_ hC rfl
                  simp only [execOp, Act.eval, b0]
                  go_simp
                refine AllOps.cons ?_ ?_
                · intro ab W hC hB hdep
                  obtain ⟨xg, (qg : xg = .bool false), eg⟩ := hdep 7 92 (by kernel_rfl)
                  subst qg
                  refine .inl ⟨((wanted_is (g := 7) (t := 92) (b := false) (c := false) rfl rfl (by rw [hB.size]; exact Nat.le_of_ble_eq_true rfl) eg).trans rfl), ?_⟩
                  obtain ⟨x0, (q0 : (isV (.pointer (some ⟨ub, 1, none⟩))) x0 W), e0⟩ := hdep 8 93 (by kernel_rfl)
                  obtain rfl : x0 = .pointer (some ⟨ub, 1, none⟩) := q0
                  have y1 := HUB.out W hC
                  clear hB hdep
                  refine goes_value (v := .string p.t) ?_ hC rfl
                  simp only [execOp, Act.eval, e0]
                  go_simp
                refine AllOps.cons ?_ ?_
                · intro ab W hC hB hdep
                  obtain ⟨xg, (qg : xg = .bool false), eg⟩ := hdep 7 92 (by kernel_rfl)
                  subst qg
                  refine .inl ⟨((wanted_is (g := 7) (t := 92) (b := false) (c := false) rfl rfl (by rw [hB.size]; exact Nat.le_of_ble_eq_true rfl) eg).trans rfl), ?_⟩
                  have b0 : ab.tmps.getD 1 undef = .pointer (some ⟨gm, 0, none⟩) := hB.off 1 (by kernel_rfl)
                  clear hB hdep
                  refine goes_value (v := .pointer (some ⟨gm, 0, none⟩)) ?_ hC rfl
                  simp only [execOp, Act.eval, b0]
                  go_simp
                refine AllOps.cons ?_ ?_
                · intro ab W hC hB hdep
                  obtain ⟨xg, (qg : xg = .bool false), eg⟩ := hdep 7 92 (by kernel_rfl)
                  subst qg
                  refine .inl ⟨((wanted_is (g := 7) (t := 92) (b := false) (c := false) rfl rfl (by rw [hB.size]; exact Nat.le_of_ble_eq_true rfl) eg).trans rfl), ?_⟩
                  obtain ⟨x0, (q0 : (isV (.pointer (some ⟨gm, 0, none⟩))) x0 W), e0⟩ := hdep 10 95 (by kernel_rfl)
                  obtain rfl : x0 = .pointer (some ⟨gm, 0, none⟩) := q0
                  clear hB hdep
                  refine goes_value (v := .pointer (some ⟨gm, 0, none⟩)) ?_ hC rfl
                  simp only [execOp, Act.eval, e0]
                  go_simp
                refine AllOps.cons ?_ ?_
                · intro ab W hC hB hdep
                  obtain ⟨xg, (qg : xg = .bool false), eg⟩ := hdep 7 92 (by kernel_rfl)
                  subst qg
                  refine .inl ⟨((wanted_is (g := 7) (t := 92) (b := false) (c := false) rfl rfl (by rw [hB.size]; exact Nat.le_of_ble_eq_true rfl) eg).trans rfl), ?_⟩
                  obtain ⟨x0, (q0 : (isV (.pointer (some ⟨gm, 0, none⟩))) x0 W), e0⟩ := hdep 11 96 (by kernel_rfl)
                  obtain rfl : x0 = .pointer (some ⟨gm, 0, none⟩) := q0
                  clear hB hdep
                  refine goes_value (v := .pointer (some ⟨gm, 2, none⟩)) ?_ hC rfl
                  simp only [execOp, Act.eval, e0]
                  go_simp
                refine AllOps.cons ?_ ?_
                · intro ab W hC hB hdep
                  obtain ⟨xg, (qg : xg = .bool false), eg⟩ := hdep 7 92 (by kernel_rfl)
                  subst qg
                  refine .inl ⟨((wanted_is (g := 7) (t := 92) (b := false) (c := false) rfl rfl (by rw [hB.size]; exact Nat.le_of_ble_eq_true rfl) eg).trans rfl), ?_⟩
                  obtain ⟨x0, (q0 : (isV (.pointer (some ⟨gm, 2, none⟩))) x0 W), e0⟩ := hdep 12 97 (by kernel_rfl)
                  obtain rfl : x0 = .pointer (some ⟨gm, 2, none⟩) := q0
                  have y1 := HOB.out W (HB9.out.trans (hC.mono HB9.out.size))
                  clear hB hdep
                  refine goes_value (v := .slice (some ⟨jb, 0, none⟩) Nn oc) ?_ hC rfl
                  simp only [execOp, Act.eval, e0]
                  go_simp
                refine AllOps.cons ?_ ?_
                · intro ab W hC hB hdep
                  obtain ⟨xg, (qg : xg = .bool false), eg⟩ := hdep 7 92 (by kernel_rfl)
                  subst qg
                  refine .inl ⟨((wanted_is (g := 7) (t := 92) (b := false) (c := false) rfl rfl (by rw [hB.size]; exact Nat.le_of_ble_eq_true rfl) eg).trans rfl), ?_⟩
                  have b0 : ab.tmps.getD 5 undef = .int .i64 ((i : Nat) : Int) := hB.off 5 (by kernel_rfl)
                  clear hB hdep
                  refine goes_value (v := .int .i64 ((i : Nat) : Int)) ?_ hC rfl
                  simp only [execOp, Act.eval, b0]
                  go_simp
                refine AllOps.cons ?_ ?_
                · intro ab W hC hB hdep
                  obtain ⟨xg, (qg : xg = .bool false), eg⟩ := hdep 7 92 (by kernel_rfl)
                  subst qg
                  refine .inl ⟨((wanted_is (g := 7) (t := 92) (b := false) (c := false) rfl rfl (by rw [hB.size]; exact Nat.le_of_ble_eq_true rfl) eg).trans rfl), ?_⟩
                  obtain ⟨x0, (q0 : (isV (.slice (some ⟨jb, 0, none⟩) Nn oc)) x0 W), e0⟩ := hdep 13 98 (by kernel_rfl)
                  obtain rfl : x0 = .slice (some ⟨jb, 0, none⟩) Nn oc := q0
                  obtain ⟨x1, (q1 : (isV (.int .i64 ((i : Nat) : Int))) x1 W), e1⟩ := hdep 14 99 (by kernel_rfl)
                  obtain rfl : x1 = .int .i64 ((i : Nat) : Int) := q1
                  clear hB hdep
                  refine goes_value (v := .pointer (some ⟨jb, i * 10, none⟩)) ?_ hC rfl
                  simp only [execOp, Act.eval, e0, e1]
                  go_simp
                refine AllOps.cons ?_ ?_
                · intro ab W hC hB hdep
                  obtain ⟨xg, (qg : xg = .bool false), eg⟩ := hdep 7 92 (by kernel_rfl)
                  subst qg
                  refine .inl ⟨((wanted_is (g := 7) (t := 92) (b := false) (c := false) rfl rfl (by rw [hB.size]; exact Nat.le_of_ble_eq_true rfl) eg).trans rfl), ?_⟩
                  obtain ⟨x0, (q0 : (isV (.pointer (some ⟨jb, i * 10, none⟩))) x0 W), e0⟩ := hdep 15 100 (by kernel_rfl)
                  obtain rfl : x0 = .pointer (some ⟨jb, i * 10, none⟩) := q0
                  clear hB hdep
                  refine goes_value (v := .pointer (some ⟨jb, i * 10 + 2, none⟩)) ?_ hC rfl
                  simp only [execOp, Act.eval, e0]
                  go_simp
                refine AllOps.cons ?_ ?_
                · intro ab W hC hB hdep
                  obtain ⟨xg, (qg : xg = .bool false), eg⟩ := hdep 7 92 (by kernel_rfl)
                  subst qg
                  refine .inl ⟨((wanted_is (g := 7) (t := 92) (b := false) (c := false) rfl rfl (by rw [hB.size]; exact Nat.le_of_ble_eq_true rfl) eg).trans rfl), ?_⟩
                  obtain ⟨x0, (q0 : (isV (.pointer (some ⟨jb, i * 10 + 2, none⟩))) x0 W), e0⟩ := hdep 16 101 (by kernel_rfl)
                  obtain rfl : x0 = .pointer (some ⟨jb, i * 10 + 2, none⟩) := q0
                  clear hB hdep
                  refine goes_value (v := .pointer (some ⟨jb, i * 10 + 3, none⟩)) ?_ hC rfl
                  simp only [execOp, Act.eval, e0]
                  go_simp
                refine AllOps.cons ?_ ?_
                · intro ab W hC hB hdep
                  obtain ⟨xg, (qg : xg = .bool false), eg⟩ := hdep 7 92 (by kernel_rfl)
                  subst qg
                  refine .inl ⟨((wanted_is (g := 7) (t := 92) (b := false) (c := false) rfl rfl (by rw [hB.size]; exact Nat.le_of_ble_eq_true rfl) eg).trans rfl), ?_⟩
                  obtain ⟨x0, (q0 : (isV (.pointer (some ⟨jb, i * 10 + 3, none⟩))) x0 W), e0⟩ := hdep 17 102 (by kernel_rfl)
                  obtain rfl : x0 = .pointer (some ⟨jb, i * 10 + 3, none⟩) := q0
                  have y1 := HJB.out W (HB9.out.trans (hC.mono HB9.out.size))
                  clear hB hdep
                  refine goes_value (v := .string p.t) ?_ hC rfl
                  simp only [execOp, Act.eval, e0]
                  go_simp
                refine AllOps.cons ?_ ?_
                · intro ab W hC hB hdep
                  obtain ⟨xg, (qg : xg = .bool false), eg⟩ := hdep 7 92 (by kernel_rfl)
                  subst qg
                  refine .inl ⟨((wanted_is (g := 7) (t := 92) (b := false) (c := false) rfl rfl (by rw [hB.size]; exact Nat.le_of_ble_eq_true rfl) eg).trans rfl), ?_⟩
                  obtain ⟨x0, (q0 : (isV (.string p.t)) x0 W), e0⟩ := hdep 9 94 (by kernel_rfl)
                  obtain rfl : x0 = .string p.t := q0
                  obtain ⟨x1, (q1 : (isV (.string p.t)) x1 W), e1⟩ := hdep 18 103 (by kernel_rfl)
                  obtain rfl : x1 = .string p.t := q1
                  clear hB hdep
                  refine goes_value (v := .bool false) ?_ hC rfl
                  simp only [execOp, Act.eval, e0, e1]
                  go_simp
                refine AllOps.cons ?_ ?_
                · intro ab W hC hB hdep
                  obtain ⟨xg, (qg : xg = .bool true), eg⟩ := hdep 4 89 (by kernel_rfl)
                  subst qg
                  refine .inl ⟨((wanted_is (g := 4) (t := 89) (b := true) (c := true) rfl rfl (by rw [hB.size]; exact Nat.le_of_ble_eq_true rfl) eg).trans rfl), ?_⟩
                  obtain ⟨x0, (q0 : (isV (.bool false)) x0 W), e0⟩ := hdep 7 92 (by kernel_rfl)
                  obtain rfl : x0 = .bool false := q0
                  obtain ⟨x1, (q1 : (isV (.bool false)) x1 W), e1⟩ := hdep 19 104 (by kernel_rfl)
                  obtain rfl : x1 = .bool false := q1
                  clear hB hdep
                  refine goes_value (v := .bool false) ?_ hC rfl
                  simp only [execOp, Act.eval, e0, e1]
                  go_simp
                refine AllOps.cons ?_ ?_
                · intro ab W hC hB hdep
                  refine .inl ⟨rfl, ?_⟩
                  obtain ⟨x0, (q0 : (isV (.bool true)) x0 W), e0⟩ := hdep 4 89 (by kernel_rfl)
                  obtain rfl : x0 = .bool true := q0
                  obtain ⟨x1, (q1 : (isV (.bool false)) x1 W), e1⟩ := hdep 20 105 (by kernel_rfl)
                  obtain rfl : x1 = .bool false := q1
                  clear hB hdep
                  refine goes_value (v := .bool false) ?_ hC rfl
                  simp only [execOp, Act.eval, e0, e1]
                  go_simp
                refine AllOps.cons ?_ ?_
                · intro ab W hC hB hdep
                  refine .inl ⟨rfl, ?_⟩
                  obtain ⟨x0, (q0 : (isV (.bool false)) x0 W), e0⟩ := hdep 21 106 (by kernel_rfl)
                  obtain rfl : x0 = .bool false := q0
                  clear hB hdep
                  refine goes_value (v := .bool false) ?_ hC rfl
                  simp only [execOp, Act.eval, e0]
                  go_simp
                refine AllOps.cons ?_ ?_
                · intro ab W hC hB hdep
                  obtain ⟨xg, (qg : xg = .bool false), eg⟩ := hdep 22 107 (by kernel_rfl)
                  subst qg
                  refine .inl ⟨((wanted_is (g := 22) (t := 107) (b := false) (c := false) rfl rfl (by rw [hB.size]; exact Nat.le_of_ble_eq_true rfl) eg).trans rfl), ?_⟩
                  have b0 : ab.tmps.getD 1 undef = .pointer (some ⟨gm, 0, none⟩) := hB.off 1 (by kernel_rfl)
                  clear hB hdep
                  refine goes_value (v := .pointer (some ⟨gm, 0, none⟩)) ?_ hC rfl
                  simp only [execOp, Act.eval, b0]
                  go_simp
                refine AllOps.cons ?_ ?_
                · intro ab W hC hB hdep
                  obtain ⟨xg, (qg : xg = .bool false), eg⟩ := hdep 22 107 (by kernel_rfl)
                  subst qg
                  refine .inl ⟨((wanted_is (g := 22) (t := 107) (b := false) (c := false) rfl rfl (by rw [hB.size]; exact Nat.le_of_ble_eq_true rfl) eg).trans rfl), ?_⟩
                  have b0 : ab.tmps.getD 6 undef = .pointer (some ⟨vb, 0, none⟩) := hB.off 6 (by kernel_rfl)
                  obtain ⟨p0, p1, _⟩ := row2 (HV6.out W hC)
                  clear hB hdep
                  refine goes_value (v := .agg #[.int .i64 7, .int .i64 ((i : Nat) : Int)]) ?_ hC rfl
                  simp only [execOp, Act.eval, b0]
                  go_simp
                refine AllOps.cons ?_ ?_
                · intro ab W hC hB hdep
                  obtain ⟨xg, (qg : xg = .bool false), eg⟩ := hdep 22 107 (by kernel_rfl)
                  subst qg
                  refine .inl ⟨((wanted_is (g := 22) (t := 107) (b := false) (c := false) rfl rfl (by rw [hB.size]; exact Nat.le_of_ble_eq_true rfl) eg).trans rfl), ?_⟩
                  obtain ⟨x0, (q0 : (isV (.pointer (some ⟨gm, 0, none⟩))) x0 W), e0⟩ := hdep 23 108 (by kernel_rfl)
                  obtain rfl : x0 = .pointer (some ⟨gm, 0, none⟩) := q0
                  obtain ⟨x1, (q1 : (isV (.agg #[.int .i64 7, .int .i64 ((i : Nat) : Int)])) x1 W), e1⟩ := hdep 24 109 (by kernel_rfl)
                  obtain rfl : x1 = .agg #[.int .i64 7, .int .i64 ((i : Nat) : Int)] := q1
                  clear hB hdep
                  refine goes_call (f := 39) (args := #[.pointer (some ⟨gm, 0, none⟩), .agg #[.int .i64 7, .int .i64 ((i : Nat) : Int)]]) ?_ ?_
                  · simp only [execOp]
                    go_simp
                  · exact (HRK.out W (HB9.out.trans (hC.mono HB9.out.size))).mono fun e w7 ⟨he, hb⟩ => ⟨_, he, hC.trans (hb.mono hC.size), hb, rfl⟩
                refine AllOps.cons ?_ ?_
                · intro ab W hC hB hdep
                  obtain ⟨xg, (qg : xg = .bool false), eg⟩ := hdep 22 107 (by kernel_rfl)
                  subst qg
                  refine .inl ⟨((wanted_is (g := 22) (t := 107) (b := false) (c := false) rfl rfl (by rw [hB.size]; exact Nat.le_of_ble_eq_true rfl) eg).trans rfl), ?_⟩
                  obtain ⟨x0, (q0 : (isV (.int .i64 10)) x0 W), e0⟩ := hdep 25 110 (by kernel_rfl)
                  obtain rfl : x0 = .int .i64 10 := q0
                  clear hB hdep
                  refine goes_value (v := .bool false) ?_ hC rfl
                  simp only [execOp, Act.eval, e0]
                  go_simp
                refine AllOps.cons ?_ ?_
                · intro ab W hC hB hdep
                  obtain ⟨xg, (qg : xg = .bool false), eg⟩ := hdep 22 107 (by kernel_rfl)
                  subst qg
                  refine .inl ⟨((wanted_is (g := 22) (t := 107) (b := false) (c := false) rfl rfl (by rw [hB.size]; exact Nat.le_of_ble_eq_true rfl) eg).trans rfl), ?_⟩
                  obtain ⟨x0, (q0 : (isV (.bool false)) x0 W), e0⟩ := hdep 26 111 (by kernel_rfl)
                  obtain rfl : x0 = .bool false := q0
                  clear hB hdep
                  refine goes_value (v := .bool false) ?_ hC rfl
                  simp only [execOp, Act.eval, e0]
                  go_simp
                refine AllOps.cons ?_ ?_
                · intro ab W hC hB hdep
                  obtain ⟨xg, (qg : xg = .bool false), eg⟩ := hdep 27 112 (by kernel_rfl)
                  subst qg
                  exact .inr ⟨((wanted_is (g := 27) (t := 112) (b := true) (c := false) rfl rfl (by rw [hB.size]; exact Nat.le_of_ble_eq_true rfl) eg).trans rfl), rfl⟩
                refine AllOps.cons ?_ ?_
                · intro ab W hC hB hdep
                  obtain ⟨xg, (qg : xg = .bool false), eg⟩ := hdep 27 112 (by kernel_rfl)
                  subst qg
                  exact .inr ⟨((wanted_is (g := 27) (t := 112) (b := true) (c := false) rfl rfl (by rw [hB.size]; exact Nat.le_of_ble_eq_true rfl) eg).trans rfl), rfl⟩
                refine AllOps.cons ?_ ?_
                · intro ab W hC hB hdep
                  obtain ⟨xg, (qg : xg = .bool false), eg⟩ := hdep 22 107 (by kernel_rfl)
                  subst qg
                  refine .inl ⟨((wanted_is (g := 22) (t := 107) (b := false) (c := false) rfl rfl (by rw [hB.size]; exact Nat.le_of_ble_eq_true rfl) eg).trans rfl), ?_⟩
                  obtain ⟨x0, (q0 : (isV (.bool false)) x0 W), e0⟩ := hdep 27 112 (by kernel_rfl)
                  obtain rfl : x0 = .bool false := q0
                  obtain ⟨x1, (q1 : (isV undef) x1 W), e1⟩ := hdep 29 114 (by kernel_rfl)
                  obtain rfl : x1 = undef := q1
                  clear hB hdep
                  refine goes_value (v := .bool false) ?_ hC rfl
                  simp only [execOp, Act.eval, e0, e1]
                  go_simp
                refine AllOps.cons ?_ ?_
                · intro ab W hC hB hdep
                  refine .inl ⟨rfl, ?_⟩
                  obtain ⟨x0, (q0 : (isV (.bool false)) x0 W), e0⟩ := hdep 22 107 (by kernel_rfl)
                  obtain rfl : x0 = .bool false := q0
                  obtain ⟨x1, (q1 : (isV (.bool false)) x1 W), e1⟩ := hdep 30 115 (by kernel_rfl)
                  obtain rfl : x1 = .bool false := q1
                  clear hB hdep
                  refine goes_value (v := .bool false) ?_ hC rfl
                  simp only [execOp, Act.eval, e0, e1]
                  go_simp
                exact trivial
              · intro aa w11 hC hB hall
                obtain ⟨v0, (k0 : v0 = .pointer (some ⟨gm, 0, none⟩)), e0⟩ := hall 0 _ rfl
                obtain ⟨v1, (k1 : v1 = .agg #[.int .i64 7, .int .i64 ((i : Nat) : Int)]), e1⟩ := hall 1 _ rfl
                obtain ⟨v2, (k2 : v2 = .int .i64 10), e2⟩ := hall 2 _ rfl
                obtain ⟨v3, (k3 : v3 = .bool true), e3⟩ := hall 3 _ rfl
                obtain ⟨v4, (k4 : v4 = .bool true), e4⟩ := hall 4 _ rfl
                obtain ⟨v5, (k5 : v5 = .int .i64 0), e5⟩ := hall 5 _ rfl
                obtain ⟨v6, (k6 : v6 = .bool false), e6⟩ := hall 6 _ rfl
                obtain ⟨v7, (k7 : v7 = .bool false), e7⟩ := hall 7 _ rfl
                obtain ⟨v8, (k8 : v8 = .pointer (some ⟨ub, 1, none⟩)), e8⟩ := hall 8 _ rfl
                obtain ⟨v9, (k9 : v9 = .string p.t), e9⟩ := hall 9 _ rfl
                obtain ⟨v10, (k10 : v10 = .pointer (some ⟨gm, 0, none⟩)), e10⟩ := hall 10 _ rfl
                obtain ⟨v11, (k11 : v11 = .pointer (some ⟨gm, 0, none⟩)), e11⟩ := hall 11 _ rfl
                obtain ⟨v12, (k12 : v12 = .pointer (some ⟨gm, 2, none⟩)), e12⟩ := hall 12 _ rfl
                obtain ⟨v13, (k13 : v13 = .slice (some ⟨jb, 0, none⟩) Nn oc), e13⟩ := hall 13 _ rfl
                obtain ⟨v14, (k14 : v14 = .int .i64 ((i : Nat) : Int)), e14⟩ := hall 14 _ rfl
                obtain ⟨v15, (k15 : v15 = .pointer (some ⟨jb, i * 10, none⟩)), e15⟩ := hall 15 _ rfl
                obtain ⟨v16, (k16 : v16 = .pointer (some ⟨jb, i * 10 + 2, none⟩)), e16⟩ := hall 16 _ rfl
                obtain ⟨v17, (k17 : v17 = .pointer (some ⟨jb, i * 10 + 3, none⟩)), e17⟩ := hall 17 _ rfl
                obtain ⟨v18, (k18 : v18 = .string p.t), e18⟩ := hall 18 _ rfl
                obtain ⟨v19, (k19 : v19 = .bool false), e19⟩ := hall 19 _ rfl
                obtain ⟨v20, (k20 : v20 = .bool false), e20⟩ := hall 20 _ rfl
                obtain ⟨v21, (k21 : v21 = .bool false), e21⟩ := hall 21 _ rfl
                obtain ⟨v22, (k22 : v22 = .bool false), e22⟩ := hall 22 _ rfl
                obtain ⟨v23, (k23 : v23 = .pointer (some ⟨gm, 0, none⟩)), e23⟩ := hall 23 _ rfl
                obtain ⟨v24, (k24 : v24 = .agg #[.int .i64 7, .int .i64 ((i : Nat) : Int)]), e24⟩ := hall 24 _ rfl
                obtain ⟨v25, (k25 : v25 = .int .i64 10), e25⟩ := hall 25 _ rfl
                obtain ⟨v26, (k26 : v26 = .bool false), e26⟩ := hall 26 _ rfl
                obtain ⟨v27, (k27 : v27 = .bool false), e27⟩ := hall 27 _ rfl
                obtain ⟨v28, (k28 : v28 = undef), e28⟩ := hall 28 _ rfl
                obtain ⟨v29, (k29 : v29 = undef), e29⟩ := hall 29 _ rfl
                obtain ⟨v30, (k30 : v30 = .bool false), e30⟩ := hall 30 _ rfl
                obtain ⟨v31, (k31 : v31 = .bool false), e31⟩ := hall 31 _ rfl
                subst k0 k1 k2 k3 k4 k5 k6 k7 k8 k9 k10 k11 k12 k13 k14 k15 k16 k17 k18 k19 k20 k21 k22 k23 k24 k25 k26 k27 k28 k29 k30 k31
                have hv : ∀ pq ∈ [((85 : Nat), (.pointer (some ⟨gm, 0, none⟩) : Value)), ((86 : Nat), (.agg #[.int .i64 7, .int .i64 ((i : Nat) : Int)] : Value)), ((87 : Nat), (.int .i64 10 : Value)), ((88 : Nat), (.bool true : Value)), ((89 : Nat), (.bool true : Value)), ((90 : Nat), (.int .i64 0 : Value)), ((91 : Nat), (.bool false : Value)), ((92 : Nat), (.bool false : Value)), ((93 : Nat), (.pointer (some ⟨ub, 1, none⟩) : Value)), ((94 : Nat), (.string p.t : Value)), ((95 : Nat), (.pointer (some ⟨gm, 0, none⟩) : Value)), ((96 : Nat), (.pointer (some ⟨gm, 0, none⟩) : Value)), ((97 : Nat), (.pointer (some ⟨gm, 2, none⟩) : Value)), ((98 : Nat), (.slice (some ⟨jb, 0, none⟩) Nn oc : Value)), ((99 : Nat), (.int .i64 ((i : Nat) : Int) : Value)), ((100 : Nat), (.pointer (some ⟨jb, i * 10, none⟩) : Value)), ((101 : Nat), (.pointer (some ⟨jb, i * 10 + 2, none⟩) : Value)), ((102 : Nat), (.pointer (some ⟨jb, i * 10 + 3, none⟩) : Value)), ((103 : Nat), (.string p.t : Value)), ((104 : Nat), (.bool false : Value)), ((105 : Nat), (.bool false : Value)), ((106 : Nat), (.bool false : Value)), ((107 : Nat), (.bool false : Value)), ((108 : Nat), (.pointer (some ⟨gm, 0, none⟩) : Value)), ((109 : Nat), (.agg #[.int .i64 7, .int .i64 ((i : Nat) : Int)] : Value)), ((110 : Nat), (.int .i64 10 : Value)), ((111 : Nat), (.bool false : Value)), ((112 : Nat), (.bool false : Value)), ((113 : Nat), (undef : Value)), ((114 : Nat), (undef : Value)), ((115 : Nat), (.bool false : Value)), ((116 : Nat), (.bool false : Value))], aa.tmps.getD pq.1 undef = pq.2 := by
                  intro pq hp
                  simp only [List.mem_cons, List.not_mem_nil, or_false] at hp
                  rcases hp with rfl | rfl | rfl | rfl | rfl | rfl | rfl | rfl | rfl | rfl | rfl | rfl | rfl | rfl | rfl | rfl | rfl | rfl | rfl | rfl | rfl | rfl | rfl | rfl | rfl | rfl | rfl | rfl | rfl | rfl | rfl | rfl
                  · exact e0 _ rfl
                  · exact e1 _ rfl
                  · exact e2 _ rfl
                  · exact e3 _ rfl
                  · exact e4 _ rfl
                  · exact e5 _ rfl
                  · exact e6 _ rfl
                  · exact e7 _ rfl
                  · exact e8 _ rfl
                  · exact e9 _ rfl
                  · exact e10 _ rfl
                  · exact e11 _ rfl
                  · exact e12 _ rfl
                  · exact e13 _ rfl
                  · exact e14 _ rfl
                  · exact e15 _ rfl
                  · exact e16 _ rfl
                  · exact e17 _ rfl
                  · exact e18 _ rfl
                  · exact e19 _ rfl
                  · exact e20 _ rfl
                  · exact e21 _ rfl
                  · exact e22 _ rfl
                  · exact e23 _ rfl
                  · exact e24 _ rfl
                  · exact e25 _ rfl
                  · exact e26 _ rfl
                  · exact e27 _ rfl
                  · exact e28 _ rfl
                  · exact e29 _ rfl
                  · exact e30 _ rfl
                  · exact e31 _ rfl
                have hact := act_fold _ hB hv (by kernel_rfl)
                subst hact
                clear hv hall hB e0 e1 e2 e3 e4 e5 e6 e7 e8 e9 e10 e11 e12 e13 e14 e15 e16 e17 e18 e19 e20 e21 e22 e23 e24 e25 e26 e27 e28 e29 e30 e31
                refine (‹∀ (a : Act) (w : World), Code.wp Try.prog _ _ a w → _›) _ w11 ?_
                simp only [List.foldl, List.setIfInBounds_toArray, List.set_cons_succ, List.set_cons_zero]
                have HB11 := Lib.hid (HB9.out.trans (hC.mono HB9.out.size))
                clear hC
                go_wp2_with fail
                go_roundw
                case measure => simp only [intOf]; omega
                case rel => exact ⟨i + 1, by omega, by go_num, HB11.out⟩
            · have hKb : (K == 10) = false := by rw [beq_eq_false_iff_ne]; exact hK
              have hKc : (K != 10) = true := by rw [bne_iff_ne]; exact hK
              have hcc := stunwrap_no gs R s (7, ((i : Nat) : Int)) wr (HS.out.below HBZ5.out) (HNO.out hK)
              have HCC := Lib.hid hcc
              clear hcc HPX HNO
              go_wp2_with fail
              refine HCC.out.mono ?_
              rintro e w9 ⟨rfl, hb9⟩
              have HBU := Lib.hid (HBZ5.out.trans (hb9.mono HBZ5.out.size))
              have HVU := Lib.hid ((hb9.block vb (Array.getElem?_eq_some_iff.1 HVZ.out).1).trans HVZ.out)
              clear hb9 HCC p0 p1 HVZ
              have hbn := below1 w9 (.cells #[.int .i64 0, .string ⟨#[]⟩, .bool false, .slice none 0 0, .slice none 0 0, .int .i64 0, .slice none 0 0, .slice none 0 0] 50)
              have HB9 := Lib.hid (HBU.out.trans (hbn.mono HBU.out.size))
              have HV9 := Lib.hid ((hbn.block vb (Array.getElem?_eq_some_iff.1 HVU.out).1).trans HVU.out)
              clear hbn HVU
              go_upto_region 17 with fail
              generalize w9.alloc (.cells #[.int .i64 0, .string ⟨#[]⟩, .bool false, .slice none 0 0, .slice none 0 0, .int .i64 0, .slice none 0 0, .slice none 0 0] 50) = w10 at *
              generalize w9.heap.size = ub at *
              have HV6 : Hid (∀ W, Below w10.heap.size w10 W → W.heap[vb]? = some (.cells #[.int .i64 7, .int .i64 ((i : Nat) : Int)] 35 (0, 0))) := Lib.hid fun W hW => (hW.block vb (Array.getElem?_eq_some_iff.1 HV9.out).1).trans HV9.out
              refine wp_region_slotsG (psi [isV (.pointer (some ⟨gm, 0, none⟩)), isV (.agg #[.int .i64 7, .int .i64 ((i : Nat) : Int)]), isV (.int .i64 K), isV (.bool false), isV (.bool false), isV undef, isV undef, isV undef, isV undef, isV undef, isV undef, isV undef, isV undef, isV undef, isV undef, isV undef, isV undef, isV undef, isV undef, isV undef, isV undef, isV (.bool false), isV (.bool false), isV (.pointer (some ⟨gm, 0, none⟩)), isV (.agg #[.int .i64 7, .int .i64 ((i : Nat) : Int)]), isV (.int .i64 K), isV (.bool true), isV (.bool true), isV (.int .i64 10), isV (.bool false), isV (.bool false), isV (.bool false)]) (fun W => Below w10.heap.size w10 W) (by kernel_rfl) (Below.refl _ _).drew (psi_mono ?_) (by kernel_rfl) (by kernel_rfl) ?_ ?_
              · intro pq hp
                simp only [List.mem_cons, List.not_mem_nil, or_false] at hp
                (repeat' rcases hp with rfl | hp) <;> first | exact isV_stays _ | (subst hp; exact isV_stays _)
              · refine AllOps.cons ?_ ?_
                · intro ab W hC hB hdep
                  refine .inl ⟨rfl, ?_⟩
                  have b0 : ab.tmps.getD 1 undef = .pointer (some ⟨gm, 0, none⟩) := hB.off 1 (by kernel_rfl)
                  clear hB hdep
                  refine goes_value (v := .pointer (some ⟨gm, 0, none⟩)) ?_ hC rfl
                  simp only [execOp, Act.eval, b0]
                  go_simp
                refine AllOps.cons ?_ ?_
                · intro ab W hC hB hdep
                  refine .inl ⟨rfl, ?_⟩
                  have b0 : ab.tmps.getD 6 undef = .pointer (some ⟨vb, 0, none⟩) := hB.off 6 (by kernel_rfl)
                  obtain ⟨p0, p1, _⟩ := row2 (HV6.out W hC)
                  clear hB hdep
                  refine goes_value (v := .agg #[.int .i64 7, .int .i64 ((i : Nat) : Int)]) ?_ hC rfl
                  simp only [execOp, Act.eval, b0]
                  go_simp
                refine AllOps.cons ?_ ?_
                · intro ab W hC hB hdep
                  refine .inl ⟨rfl, ?_⟩
                  obtain ⟨x0, (q0 : (isV (.pointer (some ⟨gm, 0, none⟩))) x0 W), e0⟩ := hdep 0 85 (by kernel_rfl)
                  obtain rfl : x0 = .pointer (some ⟨gm, 0, none⟩) := q0
                  obtain ⟨x1, (q1 : (isV (.agg #[.int .i64 7, .int .i64 ((i : Nat) : Int)])) x1 W), e1⟩ := hdep 1 86 (by kernel_rfl)
                  obtain rfl : x1 = .agg #[.int .i64 7, .int .i64 ((i : Nat) : Int)] := q1
                  clear hB hdep
                  refine goes_call (f := 39) (args := #[.pointer (some ⟨gm, 0, none⟩), .agg #[.int .i64 7, .int .i64 ((i : Nat) : Int)]]) ?_ ?_
                  · simp only [execOp]
                    go_simp
                  · exact (HRK.out W (HB9.out.trans (hC.mono HB9.out.size))).mono fun e w7 ⟨he, hb⟩ => ⟨_, he, hC.trans (hb.mono hC.size), hb, rfl⟩
                refine AllOps.cons ?_ ?_
                · intro ab W hC hB hdep
                  refine .inl ⟨rfl, ?_⟩
                  obtain ⟨x0, (q0 : (isV (.int .i64 K)) x0 W), e0⟩ := hdep 2 87 (by kernel_rfl)
                  obtain rfl : x0 = .int .i64 K := q0
                  clear hB hdep
                  refine goes_value (v := .bool false) ?_ hC rfl
                  simp only [execOp, Act.eval, e0]
                  go_simp
                refine AllOps.cons ?_ ?_
                · intro ab W hC hB hdep
                  refine .inl ⟨rfl, ?_⟩
                  obtain ⟨x0, (q0 : (isV (.bool false)) x0 W), e0⟩ := hdep 3 88 (by kernel_rfl)
                  obtain rfl : x0 = .bool false := q0
                  clear hB hdep
                  refine goes_value (v := .bool false) ?_ hC rfl
                  simp only [execOp, Act.eval, e0]
                  go_simp
                refine AllOps.cons ?_ ?_
                · intro ab W hC hB hdep
                  obtain ⟨xg, (qg : xg = .bool false), eg⟩ := hdep 4 89 (by kernel_rfl)
                  subst qg
                  exact .inr ⟨((wanted_is (g := 4) (t := 89) (b := true) (c := false) rfl rfl (by rw [hB.size]; exact Nat.le_of_ble_eq_true rfl) eg).trans rfl), rfl⟩
                refine AllOps.cons ?_ ?_
                · intro ab W hC hB hdep
                  obtain ⟨xg, (qg : xg = .bool false), eg⟩ := hdep 4 89 (by kernel_rfl)
                  subst qg
                  exact .inr ⟨((wanted_is (g := 4) (t := 89) (b := true) (c := false) rfl rfl (by rw [hB.size]; exact Nat.le_of_ble_eq_true rfl) eg).trans rfl), rfl⟩
                refine AllOps.cons ?_ ?_
                · intro ab W hC hB hdep
                  obtain ⟨xg, (qg : xg = .bool false), eg⟩ := hdep 4 89 (by kernel_rfl)
                  subst qg
                  exact .inr ⟨((wanted_is (g := 4) (t := 89) (b := true) (c := false) rfl rfl (by rw [hB.size]; exact Nat.le_of_ble_eq_true rfl) eg).trans rfl), rfl⟩
                refine AllOps.cons ?_ ?_
                · intro ab W hC hB hdep
                  obtain ⟨xg, (qg : xg = undef), eg⟩ := hdep 7 92 (by kernel_rfl)
                  subst qg
                  exact .inr ⟨unwanted_undef (g := 7) (t := 92) (b := false) rfl rfl eg, rfl⟩
                refine AllOps.cons ?_ ?_
                · intro ab W hC hB hdep
                  obtain ⟨xg, (qg : xg = undef), eg⟩ := hdep 7 92 (by kernel_rfl)
                  subst qg
                  exact .inr ⟨unwanted_undef (g := 7) (t := 92) (b := false) rfl rfl eg, rfl⟩
                refine AllOps.cons ?_ ?_
                · intro ab W hC hB hdep
                  obtain ⟨xg, (qg : xg = undef), eg⟩ := hdep 7 92 (by kernel_rfl)
                  subst qg
                  exact .inr ⟨unwanted_undef (g := 7) (t := 92) (b := false) rfl rfl eg, rfl⟩
                refine AllOps.cons ?_ ?_
                · intro ab W hC hB hdep
                  obtain ⟨xg, (qg : xg = undef), eg⟩ := hdep 7 92 (by kernel_rfl)
                  subst qg
                  exact .inr ⟨unwanted_undef (g := 7) (t := 92) (b := false) rfl rfl eg, rfl⟩
                refine AllOps.cons ?_ ?_
                · intro ab W hC hB hdep
                  obtain ⟨xg, (qg : xg = undef), eg⟩ := hdep 7 92 (by kernel_rfl)
                  subst qg
                  exact .inr ⟨unwanted_undef (g := 7) (t := 92) (b := false) rfl rfl eg, rfl⟩
                refine AllOps.cons ?_ ?_
                · intro ab W hC hB hdep
                  obtain ⟨xg, (qg : xg = undef), eg⟩ := hdep 7 92 (by kernel_rfl)
                  subst qg
                  exact .inr ⟨unwanted_undef (g := 7) (t := 92) (b := false) rfl rfl eg, rfl⟩
                refine AllOps.cons ?_ ?_
                · intro ab W hC hB hdep
                  obtain ⟨xg, (qg : xg = undef), eg⟩ := hdep 7 92 (by kernel_rfl)
                  subst qg
                  exact .inr ⟨unwanted_undef (g := 7) (t := 92) (b := false) rfl rfl eg, rfl⟩
                refine AllOps.cons ?_ ?_
                · intro ab W hC hB hdep
                  obtain ⟨xg, (qg : xg = undef), eg⟩ := hdep 7 92 (by kernel_rfl)
                  subst qg
                  exact .inr ⟨unwanted_undef (g := 7) (t := 92) (b := false) rfl rfl eg, rfl⟩
                refine AllOps.cons ?_ ?_
                · intro ab W hC hB hdep
                  obtain ⟨xg, (qg : xg = undef), eg⟩ := hdep 7 92 (by kernel_rfl)
                  subst qg
                  exact .inr ⟨unwanted_undef (g := 7) (t := 92) (b := false) rfl rfl eg, rfl⟩
                refine AllOps.cons ?_ ?_
                · intro ab W hC hB hdep
                  obtain ⟨xg, (qg : xg = undef), eg⟩ := hdep 7 92 (by kernel_rfl)
                  subst qg
                  exact .inr ⟨unwanted_undef (g := 7) (t := 92) (b := false) rfl rfl eg, rfl⟩
                refine AllOps.cons ?_ ?_
                · intro ab W hC hB hdep
                  obtain ⟨xg, (qg : xg = undef), eg⟩ := hdep 7 92 (by kernel_rfl)
                  subst qg
                  exact .inr ⟨unwanted_undef (g := 7) (t := 92) (b := false) rfl rfl eg, rfl⟩
                refine AllOps.cons ?_ ?_
                · intro ab W hC hB hdep
                  obtain ⟨xg, (qg : xg = undef), eg⟩ := hdep 7 92 (by kernel_rfl)
                  subst qg
                  exact .inr ⟨unwanted_undef (g := 7) (t := 92) (b := false) rfl rfl eg, rfl⟩
                refine AllOps.cons ?_ ?_
                · intro ab W hC hB hdep
                  obtain ⟨xg, (qg : xg = .bool false), eg⟩ := hdep 4 89 (by kernel_rfl)
                  subst qg
                  exact .inr ⟨((wanted_is (g := 4) (t := 89) (b := true) (c := false) rfl rfl (by rw [hB.size]; exact Nat.le_of_ble_eq_true rfl) eg).trans rfl), rfl⟩
                refine AllOps.cons ?_ ?_
                · intro ab W hC hB hdep
                  refine .inl ⟨rfl, ?_⟩
                  obtain ⟨x0, (q0 : (isV (.bool false)) x0 W), e0⟩ := hdep 4 89 (by kernel_rfl)
                  obtain rfl : x0 = .bool false := q0
                  obtain ⟨x1, (q1 : (isV undef) x1 W), e1⟩ := hdep 20 105 (by kernel_rfl)
                  obtain rfl : x1 = undef := q1
                  clear hB hdep
                  refine goes_value (v := .bool false) ?_ hC rfl
                  simp only [execOp, Act.eval, e0, e1]
                  go_simp
                refine AllOps.cons ?_ ?_
                · intro ab W hC hB hdep
                  refine .inl ⟨rfl, ?_⟩
                  obtain ⟨x0, (q0 : (isV (.bool false)) x0 W), e0⟩ := hdep 21 106 (by kernel_rfl)
                  obtain rfl : x0 = .bool false := q0
                  clear hB hdep
                  refine goes_value (v := .bool false) ?_ hC rfl
                  simp only [execOp, Act.eval, e0]
                  go_simp
                refine AllOps.cons ?_ ?_
                · intro ab W hC hB hdep
                  obtain ⟨xg, (qg : xg = .bool false), eg⟩ := hdep 22 107 (by kernel_rfl)
                  subst qg
                  refine .inl ⟨((wanted_is (g := 22) (t := 107) (b := false) (c := false) rfl rfl (by rw [hB.size]; exact Nat.le_of_ble_eq_true rfl) eg).trans rfl), ?_⟩
                  have b0 : ab.tmps.getD 1 undef = .pointer (some ⟨gm, 0, none⟩) := hB.off 1 (by kernel_rfl)
                  clear hB hdep
                  refine goes_value (v := .pointer (some ⟨gm, 0, none⟩)) ?_ hC rfl
                  simp only [execOp, Act.eval, b0]
                  go_simp
                refine AllOps.cons ?_ ?_
                · intro ab W hC hB hdep
                  obtain ⟨xg, (qg : xg = .bool false), eg⟩ := hdep 22 107 (by kernel_rfl)
                  subst qg
                  refine .inl ⟨((wanted_is (g := 22) (t := 107) (b := false) (c := false) rfl rfl (by rw [hB.size]; exact Nat.le_of_ble_eq_true rfl) eg).trans rfl), ?_⟩
                  have b0 : ab.tmps.getD 6 undef = .pointer (some ⟨vb, 0, none⟩) := hB.off 6 (by kernel_rfl)
                  obtain ⟨p0, p1, _⟩ := row2 (HV6.out W hC)
                  clear hB hdep
                  refine goes_value (v := .agg #[.int .i64 7, .int .i64 ((i : Nat) : Int)]) ?_ hC rfl
                  simp only [execOp, Act.eval, b0]
                  go_simp
                refine AllOps.cons ?_ ?_
                · intro ab W hC hB hdep
                  obtain ⟨xg, (qg : xg = .bool false), eg⟩ := hdep 22 107 (by kernel_rfl)
                  subst qg
                  refine .inl ⟨((wanted_is (g := 22) (t := 107) (b := false) (c := false) rfl rfl (by rw [hB.size]; exact Nat.le_of_ble_eq_true rfl) eg).trans rfl), ?_⟩
                  obtain ⟨x0, (q0 : (isV (.pointer (some ⟨gm, 0, none⟩))) x0 W), e0⟩ := hdep 23 108 (by kernel_rfl)
                  obtain rfl : x0 = .pointer (some ⟨gm, 0, none⟩) := q0
                  obtain ⟨x1, (q1 : (isV (.agg #[.int .i64 7, .int .i64 ((i : Nat) : Int)])) x1 W), e1⟩ := hdep 24 109 (by kernel_rfl)
                  obtain rfl : x1 = .agg #[.int .i64 7, .int .i64 ((i : Nat) : Int)] := q1
                  clear hB hdep
                  refine goes_call (f := 39) (args := #[.pointer (some ⟨gm, 0, none⟩), .agg #[.int .i64 7, .int .i64 ((i : Nat) : Int)]]) ?_ ?_
                  · simp only [execOp]
                    go_simp
                  · exact (HRK.out W (HB9.out.trans (hC.mono HB9.out.size))).mono fun e w7 ⟨he, hb⟩ => ⟨_, he, hC.trans (hb.mono hC.size), hb, rfl⟩
                refine AllOps.cons ?_ ?_
                · intro ab W hC hB hdep
                  obtain ⟨xg, (qg : xg = .bool false), eg⟩ := hdep 22 107 (by kernel_rfl)
                  subst qg
                  refine .inl ⟨((wanted_is (g := 22) (t := 107) (b := false) (c := false) rfl rfl (by rw [hB.size]; exact Nat.le_of_ble_eq_true rfl) eg).trans rfl), ?_⟩
                  obtain ⟨x0, (q0 : (isV (.int .i64 K)) x0 W), e0⟩ := hdep 25 110 (by kernel_rfl)
                  obtain rfl : x0 = .int .i64 K := q0
                  clear hB hdep
                  refine goes_value (v := .bool true) ?_ hC rfl
                  simp only [execOp, Act.eval, e0]
                  go_simp
                refine AllOps.cons ?_ ?_
                · intro ab W hC hB hdep
                  obtain ⟨xg, (qg : xg = .bool false), eg⟩ := hdep 22 107 (by kernel_rfl)
                  subst qg
                  refine .inl ⟨((wanted_is (g := 22) (t := 107) (b := false) (c := false) rfl rfl (by rw [hB.size]; exact Nat.le_of_ble_eq_true rfl) eg).trans rfl), ?_⟩
                  obtain ⟨x0, (q0 : (isV (.bool true)) x0 W), e0⟩ := hdep 26 111 (by kernel_rfl)
                  obtain rfl : x0 = .bool true := q0
                  clear hB hdep
                  refine goes_value (v := .bool true) ?_ hC rfl
                  simp only [execOp, Act.eval, e0]
                  go_simp
                refine AllOps.cons ?_ ?_
                · intro ab W hC hB hdep
                  obtain ⟨xg, (qg : xg = .bool true), eg⟩ := hdep 27 112 (by kernel_rfl)
                  subst qg
                  refine .inl ⟨((wanted_is (g := 27) (t := 112) (b := true) (c := true) rfl rfl (by rw [hB.size]; exact Nat.le_of_ble_eq_true rfl) eg).trans rfl), ?_⟩
                  have b0 : ab.tmps.getD 12 undef = .int .i64 10 := hB.off 12 (by kernel_rfl)
                  clear hB hdep
                  refine goes_value (v := .int .i64 10) ?_ hC rfl
                  simp only [execOp, Act.eval, b0]
                  go_simp
                refine AllOps.cons ?_ ?_
                · intro ab W hC hB hdep
                  obtain ⟨xg, (qg : xg = .bool true), eg⟩ := hdep 27 112 (by kernel_rfl)
                  subst qg
                  refine .inl ⟨((wanted_is (g := 27) (t := 112) (b := true) (c := true) rfl rfl (by rw [hB.size]; exact Nat.le_of_ble_eq_true rfl) eg).trans rfl), ?_⟩
                  obtain ⟨x0, (q0 : (isV (.int .i64 10)) x0 W), e0⟩ := hdep 28 113 (by kernel_rfl)
                  obtain rfl : x0 = .int .i64 10 := q0
                  clear hB hdep
                  refine goes_value (v := .bool false) ?_ hC rfl
                  simp only [execOp, Act.eval, e0]
                  go_simp
                refine AllOps.cons ?_ ?_
                · intro ab W hC hB hdep
                  obtain ⟨xg, (qg : xg = .bool false), eg⟩ := hdep 22 107 (by kernel_rfl)
                  subst qg
                  refine .inl ⟨((wanted_is (g := 22) (t := 107) (b := false) (c := false) rfl rfl (by rw [hB.size]; exact Nat.le_of_ble_eq_true rfl) eg).trans rfl), ?_⟩
                  obtain ⟨x0, (q0 : (isV (.bool true)) x0 W), e0⟩ := hdep 27 112 (by kernel_rfl)
                  obtain rfl : x0 = .bool true := q0
                  obtain ⟨x1, (q1 : (isV (.bool false)) x1 W), e1⟩ := hdep 29 114 (by kernel_rfl)
                  obtain rfl : x1 = .bool false := q1
                  clear hB hdep
                  refine goes_value (v := .bool false) ?_ hC rfl
                  simp only [execOp, Act.eval, e0, e1]
                  go_simp
                refine AllOps.cons ?_ ?_
                · intro ab W hC hB hdep
                  refine .inl ⟨rfl, ?_⟩
                  obtain ⟨x0, (q0 : (isV (.bool false)) x0 W), e0⟩ := hdep 22 107 (by kernel_rfl)
                  obtain rfl : x0 = .bool false := q0
                  obtain ⟨x1, (q1 : (isV (.bool false)) x1 W), e1⟩ := hdep 30 115 (by kernel_rfl)
                  obtain rfl : x1 = .bool false := q1
                  clear hB hdep
                  refine goes_value (v := .bool false) ?_ hC rfl
                  simp only [execOp, Act.eval, e0, e1]
                  go_simp
                exact trivial
              · intro aa w11 hC hB hall
                obtain ⟨v0, (k0 : v0 = .pointer (some ⟨gm, 0, none⟩)), e0⟩ := hall 0 _ rfl
                obtain ⟨v1, (k1 : v1 = .agg #[.int .i64 7, .int .i64 ((i : Nat) : Int)]), e1⟩ := hall 1 _ rfl
                obtain ⟨v2, (k2 : v2 = .int .i64 K), e2⟩ := hall 2 _ rfl
                obtain ⟨v3, (k3 : v3 = .bool false), e3⟩ := hall 3 _ rfl
                obtain ⟨v4, (k4 : v4 = .bool false), e4⟩ := hall 4 _ rfl
                obtain ⟨v5, (k5 : v5 = undef), e5⟩ := hall 5 _ rfl
                obtain ⟨v6, (k6 : v6 = undef), e6⟩ := hall 6 _ rfl
                obtain ⟨v7, (k7 : v7 = undef), e7⟩ := hall 7 _ rfl
                obtain ⟨v8, (k8 : v8 = undef), e8⟩ := hall 8 _ rfl
                obtain ⟨v9, (k9 : v9 = undef), e9⟩ := hall 9 _ rfl
                obtain ⟨v10, (k10 : v10 = undef), e10⟩ := hall 10 _ rfl
                obtain ⟨v11, (k11 : v11 = undef), e11⟩ := hall 11 _ rfl
                obtain ⟨v12, (k12 : v12 = undef), e12⟩ := hall 12 _ rfl
                obtain ⟨v13, (k13 : v13 = undef), e13⟩ := hall 13 _ rfl
                obtain ⟨v14, (k14 : v14 = undef), e14⟩ := hall 14 _ rfl
                obtain ⟨v15, (k15 : v15 = undef), e15⟩ := hall 15 _ rfl
                obtain ⟨v16, (k16 : v16 = undef), e16⟩ := hall 16 _ rfl
                obtain ⟨v17, (k17 : v17 = undef), e17⟩ := hall 17 _ rfl
                obtain ⟨v18, (k18 : v18 = undef), e18⟩ := hall 18 _ rfl
                obtain ⟨v19, (k19 : v19 = undef), e19⟩ := hall 19 _ rfl
                obtain ⟨v20, (k20 : v20 = undef), e20⟩ := hall 20 _ rfl
                obtain ⟨v21, (k21 : v21 = .bool false), e21⟩ := hall 21 _ rfl
                obtain ⟨v22, (k22 : v22 = .bool false), e22⟩ := hall 22 _ rfl
                obtain ⟨v23, (k23 : v23 = .pointer (some ⟨gm, 0, none⟩)), e23⟩ := hall 23 _ rfl
                obtain ⟨v24, (k24 : v24 = .agg #[.int .i64 7, .int .i64 ((i : Nat) : Int)]), e24⟩ := hall 24 _ rfl
                obtain ⟨v25, (k25 : v25 = .int .i64 K), e25⟩ := hall 25 _ rfl
                obtain ⟨v26, (k26 : v26 = .bool true), e26⟩ := hall 26 _ rfl
                obtain ⟨v27, (k27 : v27 = .bool true), e27⟩ := hall 27 _ rfl
                obtain ⟨v28, (k28 : v28 = .int .i64 10), e28⟩ := hall 28 _ rfl
                obtain ⟨v29, (k29 : v29 = .bool false), e29⟩ := hall 29 _ rfl
                obtain ⟨v30, (k30 : v30 = .bool false), e30⟩ := hall 30 _ rfl
                obtain ⟨v31, (k31 : v31 = .bool false), e31⟩ := hall 31 _ rfl
                subst k0 k1 k2 k3 k4 k5 k6 k7 k8 k9 k10 k11 k12 k13 k14 k15 k16 k17 k18 k19 k20 k21 k22 k23 k24 k25 k26 k27 k28 k29 k30 k31
                have hv : ∀ pq ∈ [((85 : Nat), (.pointer (some ⟨gm, 0, none⟩) : Value)), ((86 : Nat), (.agg #[.int .i64 7, .int .i64 ((i : Nat) : Int)] : Value)), ((87 : Nat), (.int .i64 K : Value)), ((88 : Nat), (.bool false : Value)), ((89 : Nat), (.bool false : Value)), ((90 : Nat), (undef : Value)), ((91 : Nat), (undef : Value)), ((92 : Nat), (undef : Value)), ((93 : Nat), (undef : Value)), ((94 : Nat), (undef : Value)), ((95 : Nat), (undef : Value)), ((96 : Nat), (undef : Value)), ((97 : Nat), (undef : Value)), ((98 : Nat), (undef : Value)), ((99 : Nat), (undef : Value)), ((100 : Nat), (undef : Value)), ((101 : Nat), (undef : Value)), ((102 : Nat), (undef : Value)), ((103 : Nat), (undef : Value)), ((104 : Nat), (undef : Value)), ((105 : Nat), (undef : Value)), ((106 : Nat), (.bool false : Value)), ((107 : Nat), (.bool false : Value)), ((108 : Nat), (.pointer (some ⟨gm, 0, none⟩) : Value)), ((109 : Nat), (.agg #[.int .i64 7, .int .i64 ((i : Nat) : Int)] : Value)), ((110 : Nat), (.int .i64 K : Value)), ((111 : Nat), (.bool true : Value)), ((112 : Nat), (.bool true : Value)), ((113 : Nat), (.int .i64 10 : Value)), ((114 : Nat), (.bool false : Value)), ((115 : Nat), (.bool false : Value)), ((116 : Nat), (.bool false : Value))], aa.tmps.getD pq.1 undef = pq.2 := by
                  intro pq hp
                  simp only [List.mem_cons, List.not_mem_nil, or_false] at hp
                  rcases hp with rfl | rfl | rfl | rfl | rfl | rfl | rfl | rfl | rfl | rfl | rfl | rfl | rfl | rfl | rfl | rfl | rfl | rfl | rfl | rfl | rfl | rfl | rfl | rfl | rfl | rfl | rfl | rfl | rfl | rfl | rfl | rfl
                  · exact e0 _ rfl
                  · exact e1 _ rfl
                  · exact e2 _ rfl
                  · exact e3 _ rfl
                  · exact e4 _ rfl
                  · exact e5 _ rfl
                  · exact e6 _ rfl
                  · exact e7 _ rfl
                  · exact e8 _ rfl
                  · exact e9 _ rfl
                  · exact e10 _ rfl
                  · exact e11 _ rfl
                  · exact e12 _ rfl
                  · exact e13 _ rfl
                  · exact e14 _ rfl
                  · exact e15 _ rfl
                  · exact e16 _ rfl
                  · exact e17 _ rfl
                  · exact e18 _ rfl
                  · exact e19 _ rfl
                  · exact e20 _ rfl
                  · exact e21 _ rfl
                  · exact e22 _ rfl
                  · exact e23 _ rfl
                  · exact e24 _ rfl
                  · exact e25 _ rfl
                  · exact e26 _ rfl
                  · exact e27 _ rfl
                  · exact e28 _ rfl
                  · exact e29 _ rfl
                  · exact e30 _ rfl
                  · exact e31 _ rfl
                have hact := act_fold _ hB hv (by kernel_rfl)
                subst hact
                clear hv hall hB e0 e1 e2 e3 e4 e5 e6 e7 e8 e9 e10 e11 e12 e13 e14 e15 e16 e17 e18 e19 e20 e21 e22 e23 e24 e25 e26 e27 e28 e29 e30 e31
                refine (‹∀ (a : Act) (w : World), Code.wp Try.prog _ _ a w → _›) _ w11 ?_
                simp only [List.foldl, List.setIfInBounds_toArray, List.set_cons_succ, List.set_cons_zero]
                have HB11 := Lib.hid (HB9.out.trans (hC.mono HB9.out.size))
                clear hC
                go_wp2_with fail
                go_roundw
                case measure => simp only [intOf]; omega
                case rel => exact ⟨i + 1, by omega, by go_num, HB11.out⟩
    · have hge : ¬ ((i : Nat) : Int) ≤ ((Nn : Nat) : Int) := by omega
      go_wp2_with fail
      go_ret
      exact ⟨rfl, HBR.out⟩
end Go.Proofs.Ytioidaojnbenbaa
