/- The reader, walked: end. | The reader, walked: dot. | The reader, walked: begin. | The reader, walked: take. -/
import Derived.Test.YtpahfhjgcflifaaGreatDoorRdAdd
import Derived.Test.YtpahfhjgcflifaaGreatDoorRdDat
import Derived.Test.YtpahfhjgcflifaaGreatDoorRdWalk
namespace Go.Proofs.YtpahfhjgcflifaaGreatDoor
open Go.RowKit

def RdTake (g B depth : Nat) (r : Except Nat (Nat × List Pt)) (w : World) (e : Ending) (w' : World) : Prop :=
  Below B w w' ∧ match r with
  | .error c => e = .returned (.int .i64 ((c : Nat) : Int)) ∧ Below w.heap.size w w'
  | .ok (c, qs) => e = .returned (.int .i64 0) ∧ ∃ ms' ov', ptsA ms' = qs ∧ RdS w' g B depth c ms' ov'
/-- The innermost is gone, and its row may change. -/
theorem RdM.popKeep {w w' : World} {g B b cap : Nat} {m : PM} {ms : List PM} (h : RdM w g B (.slice (some ⟨b, 0, none⟩) (ms.length + 1) cap) (m :: ms)) (hk : Keeps (fun x => x ≠ g ∧ m.av.ownBlock ≠ some x) w w') : RdM w' g B (.slice (some ⟨b, 0, none⟩) ms.length cap) ms := by
  obtain ⟨hp, _, _, _⟩ := h.pop
  have hgB := h.gB
  refine ⟨h.gB, hp.sep, ownsRow_keep hp.row hk fun x hx => ⟨fun e => hp.sep.1 (e ▸ hx), h.ovA m (by simp) x hx⟩, fun y hy => ownsRow_keep (hp.lists y hy) hk fun x hx => ⟨fun e => hp.sep.2 y hy (e ▸ hx), fun e => (List.pairwise_cons.1 h.avA).1 y hy x e hx⟩, fun y hy => ?_, hp.ovA, hp.avA, hp.lvs⟩
  have h1 := h.each y (List.mem_cons_of_mem _ hy)
  exact ((h1.mono fun x _ hf => ⟨hf.pop, hf.1, hf.2.2 m (by simp)⟩).move (P := fun x => Free g (.slice (some ⟨b, 0, none⟩) ms.length cap) ms x ∧ x ≠ g ∧ m.av.ownBlock ≠ some x) (hk.mono fun x _ hf => hf.2)).mono fun x _ hf => hf.1
theorem sumA_mem {x : Dm} : ∀ {l : List Dm}, x ∈ l → x.sz ≤ sumA l
  | [], h => by cases h
  | y :: l, h => by
    have e : sumA (y :: l) = y.sz + sumA l := by simp [sumA]
    rcases List.mem_cons.1 h with rfl | h
    · omega
    · have := sumA_mem h
      omega
theorem lacksA_iff {q : Pt} (h : lacksA q = false) (h2 : q.dot ≤ q.l.length) : 0 < q.dot → q.dot < q.l.length := fun h0 => by
  unfold lacksA at h
  simp [h0] at h
  omega

set_option maxRecDepth 100000 in
set_option maxHeartbeats 8000000 in
theorem end_any (g B depth count : Nat) (ov : Value) (m : PM) (mt : List PM) (w : World) (hS : RdS w g B depth count (m :: mt) ov) (hbase : Base (ptsA (m :: mt))) :
    Calls Tryz.prog 55 #[.pointer (some ⟨g, 0, none⟩)] w (RdTake g B depth (if (m.q.w.kind ≠ 1 ∧ m.q.w.kind ≠ 3) ∨ lacksA m.q = true then .error 3 else .ok (count, addA (ptsA mt) (datA m.q))) w) := by
  obtain ⟨b, cap, rfl, hcap, hBb, hbw, hcell, hfroz⟩ := hS.mem.top
  obtain ⟨lo, ln, lc, hlv⟩ := hS.mem.lvs m (by simp)
  obtain ⟨mo, mcap, hav⟩ := own_dslice (hS.mem.lists m (by simp))
  obtain ⟨q, qlv, qav, qus⟩ := m
  simp only at hlv hav
  subst hlv
  subst hav
  have hlen := hS.len
  simp only [List.length_cons] at hlen
  have HS := Lib.hid hS
  have HBA := Lib.hid hbase
  have hgw := hS.box.lt
  have hbigw := hS.big
  have p0 := hcell 0 _ rfl
  have p9 := hcell 9 _ rfl
  have p10 := hcell 10 _ rfl
  simp only [Nat.add_zero] at p0
  clear hS hbase hcell hfroz
  show Calls Tryz.prog 55 #[.pointer (some ⟨g, 0, none⟩)] w (RdTake g B depth (if (q.w.kind ≠ 1 ∧ q.w.kind ≠ 3) ∨ lacksA q = true then .error 3 else .ok (count, addA (ptsA mt) (datA q))) w)
  generalize hRR : (if (q.w.kind ≠ 1 ∧ q.w.kind ≠ 3) ∨ lacksA q = true then (.error 3 : Except Nat (Nat × List Pt)) else .ok (count, addA (ptsA mt) (datA q))) = R
  have HR := Lib.hid hRR
  clear hRR
  go_enter Tryz.func55, Tryz.ntmps55
  go_wp2_with fail
  refine (top_any g b mt.length cap depth (deepA (ptsA (⟨q, .slice lo ln lc, .slice mo q.l.length mcap, qus⟩ :: mt))) count _ HS.out.box (by omega) hcap).mono ?_
  rintro e w2 ⟨rfl, nq, rfl⟩
  have hbq := below_drewN (Below.refl w.heap.size w) nq
  have HS2 := Lib.hid (HS.out.below hbq)
  have HB2 := Lib.hid hbq
  have q0 : (w.drewN nq).cell? ⟨b, mt.length * 11, none⟩ = some (.int .i64 (q.w.kind : Nat)) := p0
  have q9 : (w.drewN nq).cell? ⟨b, mt.length * 11 + 9, none⟩ = some (.slice mo q.l.length mcap) := p9
  have q10 : (w.drewN nq).cell? ⟨b, mt.length * 11 + 10, none⟩ = some (.int .i64 (q.dot : Nat)) := p10
  clear hbq p0 p9 p10 HS
  generalize w.drewN nq = W2 at *
  by_cases hk : q.w.kind = 1 ∨ q.w.kind = 3
  case neg =>
    have h1 : (((q.w.kind : Nat) : Int) != 1) = true := by rw [bne_iff_ne]; omega
    have h3 : (((q.w.kind : Nat) : Int) != 3) = true := by rw [bne_iff_ne]; omega
    have HV : Hid (R = .error 3) := Lib.hid (HR.out.symm.trans (if_pos (.inl ⟨fun h => hk (.inl h), fun h => hk (.inr h)⟩)))
    clear hk
    go_wp2_with fail
    go_ret
    rw [HV.out]
    exact ⟨HB2.out.mono hbigw, rfl, HB2.out⟩
  have hkk : ((((q.w.kind : Nat) : Int) != 1) = false) ∨ ((((q.w.kind : Nat) : Int) != 1) = true ∧ (((q.w.kind : Nat) : Int) != 3) = false) := by
    rcases hk with h | h
    · left; rw [h]; rfl
    · right; rw [h]; exact ⟨rfl, rfl⟩
  have HK := Lib.hid hk
  clear hk
  rcases hkk with h1 | ⟨h1, h3⟩
  all_goals
    go_wp2_with fail
    refine (lacks_any b (mt.length * 11) q mo mcap W2 q9 q10).mono ?_
    rintro e w3 ⟨rfl, nq3, rfl⟩
    have hbq := below_drewN (Below.refl W2.heap.size W2) nq3
    have HS3 := Lib.hid (HS2.out.below hbq)
    have HB3 := Lib.hid (HB2.out.trans (hbq.mono HB2.out.size))
    clear hbq q0 q9 q10
    generalize W2.drewN nq3 = W3 at *
    cases hla : lacksA q with
    | true =>
      have HV : Hid (R = .error 3) := Lib.hid (HR.out.symm.trans (if_pos (.inr hla)))
      clear hla
      go_wp2_with fail
      go_ret
      rw [HV.out]
      exact ⟨HB3.out.mono hbigw, rfl, HB3.out⟩
    | false =>
      have HV : Hid (R = .ok (count, addA (ptsA mt) (datA q))) := Lib.hid (HR.out.symm.trans (if_neg (by
        rintro (⟨h, h'⟩ | h)
        · rcases HK.out with h2 | h2
          · exact h h2
          · exact h' h2
        · rw [hla] at h; cases h)))
      have HLA := Lib.hid hla
      clear hla
      have hdeep := HS3.out.deep
      have hdp : dpW q.w ≤ deepA (ptsA (⟨q, .slice lo ln lc, .slice mo q.l.length mcap, qus⟩ :: mt)) := by
        show dpW q.w ≤ deepA (q :: ptsA mt)
        rw [deepA_cons _ _ (by have := HK.out; omega)]
        omega
      go_wp2_with fail
      refine (pop_any g B b cap depth (deepA (ptsA (⟨q, .slice lo ln lc, .slice mo q.l.length mcap, qus⟩ :: mt))) count ⟨q, .slice lo ln lc, .slice mo q.l.length mcap, qus⟩ mt W3 HS3.out.mem HS3.out.box (by omega) (by omega) hdp).mono ?_
      rintro e w5 ⟨rfl, hrb5, hk5, hb5⟩
      have HS5 := Lib.hid (HS3.out.popped (by show q.w.kind ≠ 0; have := HK.out; omega) hrb5 hk5 hb5)
      have HK5 := Lib.hid hk5
      have HB5 := Lib.hid ((HB3.out.mono hbigw).trans hb5)
      have hs5 := hk5.1
      clear hrb5 hk5 hb5
      rw [show (Value.agg (pmL ⟨q, .slice lo ln lc, .slice mo q.l.length mcap, qus⟩).toArray) = .agg #[.int .i64 (q.w.kind : Nat), .string (mkB q.w.txt), .int .i64 (q.w.d.k : Nat), .string (mkB q.w.d.t), .bool q.w.d.n, .slice lo ln lc, .slice none 0 0, .int .i64 (q.w.dat : Nat), .int .i64 (q.w.pl : Nat), .slice mo q.l.length mcap, .int .i64 (q.dot : Nat)] from rfl]
      go_wp2_with fail
      have hs2 := HS3.out.wt
      have hs3 : wtA (ptsA (⟨q, .slice lo ln lc, .slice mo q.l.length mcap, qus⟩ :: mt)) = ownA q + sumA q.l + wtA (ptsA mt) := rfl
      have hs4 := sumA_len q.l
      obtain ⟨hpm, hown, hrow, hfree⟩ := HS3.out.mem.pop
      have hb6 := below1 w5 (.cells #[.int .i64 (q.w.kind : Nat), .string (mkB q.w.txt), .int .i64 (q.w.d.k : Nat), .string (mkB q.w.d.t), .bool q.w.d.n, .slice lo ln lc, .slice none 0 0, .int .i64 (q.w.dat : Nat), .int .i64 (q.w.pl : Nat), .slice mo q.l.length mcap, .int .i64 (q.dot : Nat)] 63)
      have hown5 : w5.ownsRow B 27 6 (.slice mo q.l.length mcap) q.l.length qus := ownsRow_keep hown HK5.out fun x hx => (hfree x hx).1
      have hownS := hown5.lt
      have hrow5 := hrow.move (HK5.out.mono fun x _ hf => hf.1.1)
      have hgB := hpm.gB
      have hbx5 := HS5.out.box.lt
      have HG : Hid (∀ x, (Value.slice mo q.l.length mcap).ownBlock = some x → B ≤ x ∧ x < w5.heap.size) := Lib.hid hownS
      have hown6 : (w5.alloc (.cells #[.int .i64 (q.w.kind : Nat), .string (mkB q.w.txt), .int .i64 (q.w.d.k : Nat), .string (mkB q.w.d.t), .bool q.w.d.n, .slice lo ln lc, .slice none 0 0, .int .i64 (q.w.dat : Nat), .int .i64 (q.w.pl : Nat), .slice mo q.l.length mcap, .int .i64 (q.dot : Nat)] 63)).ownsRow B 27 6 (.slice mo q.l.length mcap) q.l.length qus := ownsRow_keep hown5 (Keeps.of_below (P := fun _ => True) hb6) fun _ _ => trivial
      have HB6 := Lib.hid hb6
      have HMW := Lib.hid hs3
      clear hpm hown hown5 hownS hb6 hs3
      refine (datum_any (Free g (.slice (some ⟨b, 0, none⟩) mt.length cap) mt) B w5.heap.size q lo ln lc mo mcap qus (w5.alloc (.cells #[.int .i64 (q.w.kind : Nat), .string (mkB q.w.txt), .int .i64 (q.w.d.k : Nat), .string (mkB q.w.d.t), .bool q.w.d.n, .slice lo ln lc, .slice none 0 0, .int .i64 (q.w.dat : Nat), .int .i64 (q.w.pl : Nat), .slice mo q.l.length mcap, .int .i64 (q.dot : Nat)] 63)) (heap_alloc_new w5 _) hown6 (hrow5.move (Keeps.of_below HB6.out)) hfree (fun x hx => HS5.out.mem.free_new HS5.out.box.lt (Nat.le_trans HB6.out.size hx)) (by have := HMW.out; omega) (fun j hj => ?_) (Nat.le_trans HS5.out.big HB6.out.size) (lacksA_iff HLA.out (HS3.out.dots _ List.mem_cons_self)) (fun e => by have := (HG.out _ e).2; omega)).mono ?_
      · have h1 := sumA_mem (List.getElem_mem hj)
        have h2 := sumA_len (q.l[j]'hj).l
        have h3 := sz_sumA' (q.l[j]'hj)
        have := HMW.out
        omega
      rintro e w7 ⟨us7, rfl, hly7, hg7⟩
      have hng : (Value.slice mo q.l.length mcap).ownBlock ≠ some g := HS3.out.mem.sep.2 _ List.mem_cons_self
      have hk7 : Keeps (fun x => (Value.slice mo q.l.length mcap).ownBlock ≠ some x) (w5.alloc (.cells #[.int .i64 (q.w.kind : Nat), .string (mkB q.w.txt), .int .i64 (q.w.d.k : Nat), .string (mkB q.w.d.t), .bool q.w.d.n, .slice lo ln lc, .slice none 0 0, .int .i64 (q.w.dat : Nat), .int .i64 (q.w.pl : Nat), .slice mo q.l.length mcap, .int .i64 (q.dot : Nat)] 63)) w7 := Keeps.of_grown hg7 fun x hx h => h hx
      have hrb7 := (HS5.out.box.step HB6.out).keep hk7 hng
      have hm7 : RdM w7 g B (.slice (some ⟨b, 0, none⟩) mt.length cap) mt := HS3.out.mem.popKeep ((HK5.out.mono fun x _ hf => hf.1).trans ((Keeps.of_below HB6.out).trans (hk7.mono fun x _ hf => hf.2)))
      have hbl7 : Below B w w7 := (HB5.out.trans (HB6.out.mono HS5.out.big)).grown hg7 (Nat.le_trans HS5.out.big HB6.out.size) (fun x hx => (HG.out x hx).1)
      have hS7 : RdS w7 g B depth count mt (.slice (some ⟨b, 0, none⟩) mt.length cap) := ⟨hm7, hrb7, Nat.le_trans HS5.out.big (Nat.le_trans HB6.out.size hg7.size), HS5.out.len, HS5.out.words, HS5.out.dots, HS5.out.wt⟩
      have HS7 := Lib.hid hS7
      have HLY7 := Lib.hid hly7
      have HBL7 := Lib.hid hbl7
      have HWT : Hid (wtA (ptsA mt) + (datA q).sz ≤ 8192) := Lib.hid (by
        have h1 := datA_sz q
        have h2 : ownA q = 1 := by
          unfold ownA
          rw [if_pos HK.out]
        have := HMW.out
        omega)
      have HBT : Hid (Base (ptsA mt)) := Lib.hid (HBA.out.tail (by have := HK.out; show q.w.kind ≠ 0; omega))
      clear hng hk7 hrb7 hm7 hbl7 hS7 hly7 hg7
      go_wp2_with fail
      refine (add_any g B depth count _ mt (datA q) us7 w7 HS7.out HBT.out HLY7.out HWT.out).mono ?_
      rintro e w8 ⟨rfl, ms8, ov8, hp8, hS8, hb8⟩
      have HP8 := Lib.hid hp8
      have HS8 := Lib.hid hS8
      have HB8 := Lib.hid hb8
      clear hp8 hS8 hb8
      go_wp2_with fail
      go_ret
      rw [HV.out]
      exact ⟨HBL7.out.trans HB8.out, rfl, ms8, ov8, HP8.out, HS8.out⟩
end Go.Proofs.YtpahfhjgcflifaaGreatDoor
namespace Go.Proofs.YtpahfhjgcflifaaGreatDoor
open Go.RowKit

def dotA (m : Pt) (ps : List Pt) (count : Nat) : Except Nat (Nat × List Pt) := if m.w.kind ≠ 1 ∨ m.l.length = 0 ∨ 0 < m.dot then .error 3 else .ok (count, { m with dot := m.l.length } :: ps)
theorem RdS.setDot {w : World} {g B b cap depth count d : Nat} {m : PM} {mt : List PM} (h : RdS w g B depth count (m :: mt) (.slice (some ⟨b, 0, none⟩) (mt.length + 1) cap)) (_hBb : B ≤ b) (hd : d ≤ m.q.l.length) {u : Int} (hu : u = (d : Int)) : RdS (w.setCell ⟨b, mt.length * 11 + 10, none⟩ (.int .i64 u)) g B depth count ({ m with q := { m.q with dot := d } } :: mt) (.slice (some ⟨b, 0, none⟩) (mt.length + 1) cap) := by
  have hgB := h.mem.gB
  have hk : Keeps (fun x => x ≠ b) w (w.setCell ⟨b, mt.length * 11 + 10, none⟩ (.int .i64 u)) := (Keeps.refl _ _).set (fun h => h rfl) _
  have hb := h.box.keep hk (fun e => h.mem.sep.1 (by rw [e]; rfl))
  refine ⟨h.mem.setDot d hu, ?_, by simpa using h.big, h.len, fun x hx => ?_, fun x hx => ?_, h.wt⟩
  · have e : deepA (ptsA ({ m with q := { m.q with dot := d } } :: mt)) = deepA (ptsA (m :: mt)) := deepA_same (ptsA mt) rfl
    rw [e]
    exact hb
  · rcases List.mem_cons.1 hx with rfl | hx
    · exact h.words m List.mem_cons_self
    · exact h.words x (List.mem_cons_of_mem _ hx)
  · rcases List.mem_cons.1 hx with rfl | hx
    · exact hd
    · exact h.dots x (List.mem_cons_of_mem _ hx)

set_option maxRecDepth 100000 in
set_option maxHeartbeats 4000000 in
theorem dot_any (g B depth count : Nat) (ov : Value) (m : PM) (mt : List PM) (w : World) (hS : RdS w g B depth count (m :: mt) ov) :
    Calls Tryz.prog 56 #[.pointer (some ⟨g, 0, none⟩)] w (RdTake g B depth (dotA m.q (ptsA mt) count) w) := by
  obtain ⟨b, cap, rfl, hcap, hBb, hbw, hcell, hfroz⟩ := hS.mem.top
  obtain ⟨lo, ln, lc, hlv⟩ := hS.mem.lvs m (by simp)
  obtain ⟨mo, mcap, hav⟩ := own_dslice (hS.mem.lists m (by simp))
  obtain ⟨q, qlv, qav, qus⟩ := m
  simp only at hlv hav
  subst hlv
  subst hav
  have hlen := hS.len
  simp only [List.length_cons] at hlen
  have HS := Lib.hid hS
  have hgw := hS.box.lt
  have hbigw := hS.big
  have hgB := hS.mem.gB
  have p0 := hcell 0 _ rfl
  have p9 := hcell 9 _ rfl
  have p10 := hcell 10 _ rfl
  have f10 := hfroz (mt.length * 11 + 10)
  simp only [Nat.add_zero] at p0
  clear hS hcell hfroz
  show Calls Tryz.prog 56 #[.pointer (some ⟨g, 0, none⟩)] w (RdTake g B depth (dotA q (ptsA mt) count) w)
  generalize hRR : dotA q (ptsA mt) count = R
  have HR := Lib.hid hRR
  clear hRR
  go_enter Tryz.func56, Tryz.ntmps56
  go_wp2_with fail
  refine (top_any g b mt.length cap depth (deepA (ptsA (⟨q, .slice lo ln lc, .slice mo q.l.length mcap, qus⟩ :: mt))) count _ HS.out.box (by omega) hcap).mono ?_
  rintro e w2 ⟨rfl, nq, rfl⟩
  have hbq := below_drewN (Below.refl w.heap.size w) nq
  have HS2 := Lib.hid (HS.out.below hbq)
  have HB2 := Lib.hid hbq
  have q0 : (w.drewN nq).cell? ⟨b, mt.length * 11, none⟩ = some (.int .i64 (q.w.kind : Nat)) := p0
  have q9 : (w.drewN nq).cell? ⟨b, mt.length * 11 + 9, none⟩ = some (.slice mo q.l.length mcap) := p9
  have q10 : (w.drewN nq).cell? ⟨b, mt.length * 11 + 10, none⟩ = some (.int .i64 (q.dot : Nat)) := p10
  have g10 : (w.drewN nq).frozen? ⟨b, mt.length * 11 + 10, none⟩ = false := f10
  clear hbq p0 p9 p10 f10 HS
  generalize w.drewN nq = W2 at *
  by_cases hk : q.w.kind = 1
  case neg =>
    have h1 : (((q.w.kind : Nat) : Int) != 1) = true := by rw [bne_iff_ne]; omega
    have HV : Hid (R = .error 3) := Lib.hid (HR.out.symm.trans (if_pos (.inl hk)))
    clear hk
    go_wp2_with fail
    go_ret
    rw [HV.out]
    exact ⟨HB2.out.mono hbigw, rfl, HB2.out⟩
  have h1 : (((q.w.kind : Nat) : Int) != 1) = false := by rw [hk]; rfl
  by_cases hl : q.l.length = 0
  · have h2 : (((q.l.length : Nat) : Int) == 0) = true := by rw [hl]; rfl
    have HV : Hid (R = .error 3) := Lib.hid (HR.out.symm.trans (if_pos (.inr (.inl hl))))
    clear hk hl
    go_wp2_with fail
    go_ret
    rw [HV.out]
    exact ⟨HB2.out.mono hbigw, rfl, HB2.out⟩
  have h2 : (((q.l.length : Nat) : Int) == 0) = false := by rw [beq_eq_false_iff_ne]; omega
  by_cases hd : 0 < q.dot
  · have h3 : decide ((0 : Int) < ((q.dot : Nat) : Int)) = true := by rw [decide_eq_true_iff]; omega
    have h3' : decide (0 < q.dot) = true := by rw [decide_eq_true_iff]; omega
    have HV : Hid (R = .error 3) := Lib.hid (HR.out.symm.trans (if_pos (.inr (.inr hd))))
    clear hk hl hd
    go_wp2_with fail
    go_ret
    rw [HV.out]
    exact ⟨HB2.out.mono hbigw, rfl, HB2.out⟩
  have h3 : decide ((0 : Int) < ((q.dot : Nat) : Int)) = false := by rw [decide_eq_false_iff_not]; omega
  have h3' : decide (0 < q.dot) = false := by rw [decide_eq_false_iff_not]; omega
  have HV : Hid (R = .ok (count, { q with dot := q.l.length } :: ptsA mt)) := Lib.hid (HR.out.symm.trans (if_neg (by rintro (h | h | h); exact h hk; exact hl h; exact hd h)))
  clear hk hl hd
  go_wp2_with fail
  go_ret
  rw [HV.out]
  exact ⟨(HB2.out.mono hbigw).setCell (by show B ≤ b; omega) _, rfl, _, _, rfl, HS2.out.setDot hBb (Nat.le_refl _) rfl⟩
end Go.Proofs.YtpahfhjgcflifaaGreatDoor
namespace Go.Proofs.YtpahfhjgcflifaaGreatDoor
open Go.RowKit

def beginA (depth count : Nat) (p : Pt) (ps : List Pt) (x : Wd) : Except Nat (Nat × List Pt) :=
  if fullA p = true then .error 3 else if depth < deepA ps + szW x then .error 5 else if 8192 < count + szW x then .error 6
  else if x.kind = 7 then .ok (count + 1, addA ps (leafD x)) else .ok (count + szW x, ⟨x, [], 0⟩ :: ps)
theorem RdS.recount {w : World} {g B depth count : Nat} {ms : List PM} {ov : Value} (h : RdS w g B depth count ms ov) (c : Nat) {u : Int} (hu : u = (c : Int)) : RdS (w.setCell ⟨g, 2, none⟩ (.int .i64 u)) g B depth c ms ov :=
  ⟨h.mem.keep ((Keeps.refl (fun b => b ≠ g) w).set (p := ⟨g, 2, none⟩) (fun h => h rfl) _), h.box.set2 c hu, by simpa using h.big, h.len, h.words, h.dots, h.wt⟩
theorem RdS.pushed {w w' : World} {g B depth count : Nat} {x : Wd} {lv : Value} {ms : List PM} {ov ov' : Value} (h : RdS w g B depth count ms ov) (hx : WdOk x) (h0 : x.kind ≠ 0) (hl : ms.length + 1 ≤ 2000000) (hw : ownA ⟨x, [], 0⟩ + wtA (ptsA ms) ≤ 8192) (hm : RdM w' g B ov' (⟨⟨x, [], 0⟩, lv, .slice none 0 0, []⟩ :: ms)) (hb : RB w' g depth (deepA (ptsA ms) + dpW x) count ov') (hbl : Below B w w') : RdS w' g B depth count (⟨⟨x, [], 0⟩, lv, .slice none 0 0, []⟩ :: ms) ov' := by
  refine ⟨hm, ?_, Nat.le_trans h.big hbl.size, hl, fun y hy => ?_, fun y hy => ?_, ?_⟩
  · have e : deepA (ptsA (⟨⟨x, [], 0⟩, lv, .slice none 0 0, []⟩ :: ms)) = deepA (ptsA ms) + dpW x := deepA_cons ⟨x, [], 0⟩ (ptsA ms) h0
    rw [e]
    exact hb
  · rcases List.mem_cons.1 hy with rfl | hy
    · exact hx
    · exact h.words y hy
  · rcases List.mem_cons.1 hy with rfl | hy
    · exact Nat.le_refl _
    · exact h.dots y hy
  · show ownA ⟨x, [], 0⟩ + sumA [] + wtA (ptsA ms) ≤ 8192
    simpa [sumA] using hw
theorem ownA_sz (x : Wd) : ownA ⟨x, [], 0⟩ ≤ szW x := by
  unfold ownA szW
  simp only
  split <;> split <;> (try split) <;> omega

set_option maxRecDepth 100000 in
set_option maxHeartbeats 8000000 in
theorem begin_any (g B depth count : Nat) (ov : Value) (m : PM) (mt : List PM) (x : Wd) (lo : Option Addr) (ln lc : Nat) (w : World) (hS : RdS w g B depth count (m :: mt) ov) (hbase : Base (ptsA (m :: mt))) (_hdep : depth ≤ 64) (hcnt : count ≤ 8192) (hwt : wtA (ptsA (m :: mt)) ≤ count) (hlen : mt.length + 2 ≤ 2000000) (hx : WdOk x) (hlf : x.kind = 7 → LayP (fun b => b < B) w (leafD x) [.int .i64 (x.d.k : Nat), .string (mkB x.d.t), .bool x.d.n, .slice lo ln lc, .slice none 0 0, .int .i64 (x.dat : Nat)]) (h0 : x.kind ≠ 0) :
    Calls Tryz.prog 58 #[.pointer (some ⟨g, 0, none⟩), .agg (wdL x (.slice lo ln lc)).toArray] w (RdTake g B depth (beginA depth count m.q (ptsA (m :: mt)) x) w) := by
  obtain ⟨b, cap, rfl, hcap, hBb, hbw, hcell, hfroz⟩ := hS.mem.top
  obtain ⟨qlo, qln, qlc, hlv⟩ := hS.mem.lvs m (by simp)
  obtain ⟨mo, mcap, hav⟩ := own_dslice (hS.mem.lists m (by simp))
  obtain ⟨q, qlv, qav, qus⟩ := m
  simp only at hlv hav
  subst hlv
  subst hav
  have HS := Lib.hid hS
  have HBA := Lib.hid hbase
  have HX := Lib.hid hx
  have HLF := Lib.hid hlf
  have HWT := Lib.hid hwt
  have H0 := Lib.hid h0
  have hgw := hS.box.lt
  have hbigw := hS.big
  have hgB := hS.mem.gB
  have hdeep := hS.deep
  have p9 := hcell 9 _ rfl
  have p10 := hcell 10 _ rfl
  clear hS hbase hcell hfroz hx hlf hwt h0
  have hb1 := below1 w (.cells #[.int .i64 (x.kind : Nat), .string (mkB x.txt), .int .i64 (x.d.k : Nat), .string (mkB x.d.t), .bool x.d.n, .slice lo ln lc, .slice none 0 0, .int .i64 (x.dat : Nat), .int .i64 (x.pl : Nat)] 61)
  have hx1 := heap_alloc_new w (.cells #[.int .i64 (x.kind : Nat), .string (mkB x.txt), .int .i64 (x.d.k : Nat), .string (mkB x.d.t), .bool x.d.n, .slice lo ln lc, .slice none 0 0, .int .i64 (x.dat : Nat), .int .i64 (x.pl : Nat)] 61)
  have HB1 := Lib.hid hb1
  have HS1 := Lib.hid (HS.out.below hb1)
  have HX1 := Lib.hid hx1
  have r9 : (w.alloc (.cells #[.int .i64 (x.kind : Nat), .string (mkB x.txt), .int .i64 (x.d.k : Nat), .string (mkB x.d.t), .bool x.d.n, .slice lo ln lc, .slice none 0 0, .int .i64 (x.dat : Nat), .int .i64 (x.pl : Nat)] 61)).cell? ⟨b, mt.length * 11 + 9, none⟩ = some (.slice mo q.l.length mcap) := (World.cell?_of_block (w := w) (a := ⟨b, mt.length * 11 + 9, none⟩) (hb1.block b hbw)).trans p9
  have r10 : (w.alloc (.cells #[.int .i64 (x.kind : Nat), .string (mkB x.txt), .int .i64 (x.d.k : Nat), .string (mkB x.d.t), .bool x.d.n, .slice lo ln lc, .slice none 0 0, .int .i64 (x.dat : Nat), .int .i64 (x.pl : Nat)] 61)).cell? ⟨b, mt.length * 11 + 10, none⟩ = some (.int .i64 (q.dot : Nat)) := (World.cell?_of_block (w := w) (a := ⟨b, mt.length * 11 + 10, none⟩) (hb1.block b hbw)).trans p10
  clear hb1 hx1 p9 p10
  show Calls Tryz.prog 58 #[.pointer (some ⟨g, 0, none⟩), .agg #[.int .i64 (x.kind : Nat), .string (mkB x.txt), .int .i64 (x.d.k : Nat), .string (mkB x.d.t), .bool x.d.n, .slice lo ln lc, .slice none 0 0, .int .i64 (x.dat : Nat), .int .i64 (x.pl : Nat)]] w (RdTake g B depth (beginA depth count q (ptsA (⟨q, .slice qlo qln qlc, .slice mo q.l.length mcap, qus⟩ :: mt)) x) w)
  generalize hRR : beginA depth count q (ptsA (⟨q, .slice qlo qln qlc, .slice mo q.l.length mcap, qus⟩ :: mt)) x = R
  have HR := Lib.hid hRR
  clear hRR
  obtain ⟨dp, hdpe⟩ : ∃ dp, deepA (ptsA (⟨q, .slice qlo qln qlc, .slice mo q.l.length mcap, qus⟩ :: mt)) = dp := ⟨_, rfl⟩
  rw [hdpe] at hdeep
  have HDP := Lib.hid hdpe
  clear hdpe
  by_cases hk6 : x.kind = 6
  · have h6 : (((x.kind : Nat) : Int) == 6) = true := by rw [hk6]; rfl
    have h7 : (((x.kind : Nat) : Int) == 7) = false := by rw [hk6]; rfl
    have HSZ : Hid (szW x = 2) := Lib.hid (if_pos hk6)
    have HK7 : Hid (x.kind ≠ 7) := Lib.hid (by omega)
    clear hk6
    go_enter Tryz.func58, Tryz.ntmps58
    go_wp2_with fail
    refine (top_any g b mt.length cap depth dp count _ (by have := HS1.out.box; rw [HDP.out] at this; exact this) (by omega) hcap).mono ?_
    rintro e w2 ⟨rfl, nq, rfl⟩
    have hbq := below_drewN (Below.refl (w.alloc (.cells #[.int .i64 (x.kind : Nat), .string (mkB x.txt), .int .i64 (x.d.k : Nat), .string (mkB x.d.t), .bool x.d.n, .slice lo ln lc, .slice none 0 0, .int .i64 (x.dat : Nat), .int .i64 (x.pl : Nat)] 61)).heap.size (w.alloc (.cells #[.int .i64 (x.kind : Nat), .string (mkB x.txt), .int .i64 (x.d.k : Nat), .string (mkB x.d.t), .bool x.d.n, .slice lo ln lc, .slice none 0 0, .int .i64 (x.dat : Nat), .int .i64 (x.pl : Nat)] 61))) nq
    have HS2 := Lib.hid (HS1.out.below hbq)
    have HB2 := Lib.hid (HB1.out.trans (hbq.mono HB1.out.size))
    have HX2 : Hid (((w.alloc (.cells #[.int .i64 (x.kind : Nat), .string (mkB x.txt), .int .i64 (x.d.k : Nat), .string (mkB x.d.t), .bool x.d.n, .slice lo ln lc, .slice none 0 0, .int .i64 (x.dat : Nat), .int .i64 (x.pl : Nat)] 61)).drewN nq).heap[w.heap.size]? = some (.cells #[.int .i64 (x.kind : Nat), .string (mkB x.txt), .int .i64 (x.d.k : Nat), .string (mkB x.d.t), .bool x.d.n, .slice lo ln lc, .slice none 0 0, .int .i64 (x.dat : Nat), .int .i64 (x.pl : Nat)] 61 (0, 0))) := Lib.hid HX1.out
    have s9 : ((w.alloc (.cells #[.int .i64 (x.kind : Nat), .string (mkB x.txt), .int .i64 (x.d.k : Nat), .string (mkB x.d.t), .bool x.d.n, .slice lo ln lc, .slice none 0 0, .int .i64 (x.dat : Nat), .int .i64 (x.pl : Nat)] 61)).drewN nq).cell? ⟨b, mt.length * 11 + 9, none⟩ = some (.slice mo q.l.length mcap) := r9
    have s10 : ((w.alloc (.cells #[.int .i64 (x.kind : Nat), .string (mkB x.txt), .int .i64 (x.d.k : Nat), .string (mkB x.d.t), .bool x.d.n, .slice lo ln lc, .slice none 0 0, .int .i64 (x.dat : Nat), .int .i64 (x.pl : Nat)] 61)).drewN nq).cell? ⟨b, mt.length * 11 + 10, none⟩ = some (.int .i64 (q.dot : Nat)) := r10
    have hsw : w.heap.size < ((w.alloc (.cells #[.int .i64 (x.kind : Nat), .string (mkB x.txt), .int .i64 (x.d.k : Nat), .string (mkB x.d.t), .bool x.d.n, .slice lo ln lc, .slice none 0 0, .int .i64 (x.dat : Nat), .int .i64 (x.pl : Nat)] 61)).drewN nq).heap.size := by simp
    clear hbq r9 r10
    generalize (w.alloc (.cells #[.int .i64 (x.kind : Nat), .string (mkB x.txt), .int .i64 (x.d.k : Nat), .string (mkB x.d.t), .bool x.d.n, .slice lo ln lc, .slice none 0 0, .int .i64 (x.dat : Nat), .int .i64 (x.pl : Nat)] 61)).drewN nq = W2 at *
    go_wp2_with fail
    refine (full_any b (mt.length * 11) q mo mcap W2 s9 s10).mono ?_
    rintro e w3 ⟨rfl, nq3, rfl⟩
    have hbq := below_drewN (Below.refl W2.heap.size W2) nq3
    have HS3 := Lib.hid (HS2.out.below hbq)
    have HB3 := Lib.hid (HB2.out.trans (hbq.mono HB2.out.size))
    have HX3 : Hid ((W2.drewN nq3).heap[w.heap.size]? = some (.cells #[.int .i64 (x.kind : Nat), .string (mkB x.txt), .int .i64 (x.d.k : Nat), .string (mkB x.d.t), .bool x.d.n, .slice lo ln lc, .slice none 0 0, .int .i64 (x.dat : Nat), .int .i64 (x.pl : Nat)] 61 (0, 0))) := Lib.hid HX2.out
    have hsw3 : w.heap.size < (W2.drewN nq3).heap.size := hsw
    clear hbq s9 s10 HS2 HX2
    generalize W2.drewN nq3 = W3 at *
    have hng : g ≠ w.heap.size := by omega
    have hng2 : w.heap.size ≠ g := by omega
    obtain ⟨c0, c1, c2, c3, f1, f2, f3⟩ := (show RB W3 g depth dp count _ from (by have := HS3.out.box; rw [HDP.out] at this; exact this)).facts
    have t0 := cell_heap HX3.out 0
    have t1 := cell_heap HX3.out 1
    have t2 := cell_heap HX3.out 2
    have t3 := cell_heap HX3.out 3
    have t4 := cell_heap HX3.out 4
    have t5 := cell_heap HX3.out 5
    have t6 := cell_heap HX3.out 6
    have t7 := cell_heap HX3.out 7
    have t8 := cell_heap HX3.out 8
    cases hf : fullA q with
    | true =>
      have HV : Hid (R = .error 3) := Lib.hid (HR.out.symm.trans (if_pos hf))
      clear hf
      go_wp2_with fail
      go_ret
      rw [HV.out]
      exact ⟨HB3.out.mono hbigw, rfl, HB3.out⟩
    | false =>
      have HF : Hid (¬ fullA q = true) := Lib.hid (by rw [hf]; simp)
      clear hf
      by_cases hd : depth < dp + 2
      · have h1 : decide ((depth : Int) < (dp : Int) + 2) = true := by rw [decide_eq_true_iff]; omega
        have h1b : decide (depth < dp + 2) = true := by rw [decide_eq_true_iff]; omega
        have HV : Hid (R = .error 5) := Lib.hid (HR.out.symm.trans ((if_neg HF.out).trans (if_pos (by rw [HDP.out, HSZ.out]; exact hd))))
        go_wp2_with fail
        go_region
        all_goals
          go_wp2_with fail
          go_ret
          rw [HV.out]
          exact ⟨HB3.out.drew.mono hbigw, rfl, HB3.out.drew⟩
      · have h1 : decide ((depth : Int) < (dp : Int) + 2) = false := by rw [decide_eq_false_iff_not]; omega
        have h1b : decide (depth < dp + 2) = false := by rw [decide_eq_false_iff_not]; omega
        by_cases hc : 8192 < count + 2
        · have h2 : decide ((8192 : Int) < (count : Int) + 2) = true := by rw [decide_eq_true_iff]; omega
          have h2b : decide (8192 < count + 2) = true := by rw [decide_eq_true_iff]; omega
          have HV : Hid (R = .error 6) := Lib.hid (HR.out.symm.trans ((if_neg HF.out).trans ((if_neg (by rw [HDP.out, HSZ.out]; exact hd)).trans (if_pos (by rw [HSZ.out]; exact hc)))))
          clear hd hc
          go_wp2_with fail
          go_region
          all_goals
            go_wp2_with fail
            go_ret
            rw [HV.out]
            exact ⟨HB3.out.drew.mono hbigw, rfl, HB3.out.drew⟩
        · have h2 : decide ((8192 : Int) < (count : Int) + 2) = false := by rw [decide_eq_false_iff_not]; omega
          have h2b : decide (8192 < count + 2) = false := by rw [decide_eq_false_iff_not]; omega
          have HC := Lib.hid hc
          have HS4 : Hid (RdS (W3.drew.setCell ⟨g, 2, none⟩ (.int .i64 ((count : Int) + 2))) g B depth (count + 2) (⟨q, .slice qlo qln qlc, .slice mo q.l.length mcap, qus⟩ :: mt) (.slice (some ⟨b, 0, none⟩) (mt.length + 1) cap)) := Lib.hid ((HS3.out.below (Below.refl W3.heap.size W3).drew).recount (count + 2) (by omega))
          have HB4 : Hid (Below B w (W3.drew.setCell ⟨g, 2, none⟩ (.int .i64 ((count : Int) + 2)))) := Lib.hid ((HB3.out.mono hbigw).drew.setCell hgB _)
          have HV : Hid (R = .ok (count + 2, ⟨x, [], 0⟩ :: ptsA (⟨q, .slice qlo qln qlc, .slice mo q.l.length mcap, qus⟩ :: mt))) := Lib.hid (HR.out.symm.trans ((if_neg HF.out).trans ((if_neg (by rw [HDP.out, HSZ.out]; exact hd)).trans ((if_neg (by rw [HSZ.out]; exact hc)).trans ((if_neg HK7.out).trans (by rw [HSZ.out]))))))
          clear hd hc
          go_wp2_with fail
          go_region
          all_goals
            go_wp2_with fail
            refine (push_any g B depth dp (count + 2) _ (⟨q, .slice qlo qln qlc, .slice mo q.l.length mcap, qus⟩ :: mt) x lo ln lc _ HS4.out.mem (by have := HS4.out.box; rw [HDP.out] at this; exact this) (by simp; omega) (by omega) HS4.out.big).mono ?_
            rintro e w6 ⟨rfl, ov6, hm6, hb6, hbl6⟩
            have HS6 := Lib.hid (HS4.out.pushed HX.out H0.out (by simp; omega) (by have h1 := HWT.out; have h2 := HC.out; have h3 := ownA_sz x; have h4 := HSZ.out; omega) hm6 (by rw [HDP.out]; exact hb6) hbl6)
            have HB6 := Lib.hid (HB4.out.trans hbl6)
            clear hm6 hb6 hbl6
            go_wp2_with fail
            go_ret
            rw [HV.out]
            exact ⟨HB6.out, rfl, _, _, rfl, HS6.out⟩
  · have h6 : (((x.kind : Nat) : Int) == 6) = false := by rw [beq_eq_false_iff_ne]; omega
    have HSZ : Hid (szW x = 1) := Lib.hid (if_neg hk6)
    clear hk6
    by_cases hk7 : x.kind = 7
    · have h7 : (((x.kind : Nat) : Int) == 7) = true := by rw [hk7]; rfl
      have HK7 := Lib.hid hk7
      clear hk7
      go_enter Tryz.func58, Tryz.ntmps58
      go_wp2_with fail
      refine (top_any g b mt.length cap depth dp count _ (by have := HS1.out.box; rw [HDP.out] at this; exact this) (by omega) hcap).mono ?_
      rintro e w2 ⟨rfl, nq, rfl⟩
      have hbq := below_drewN (Below.refl (w.alloc (.cells #[.int .i64 (x.kind : Nat), .string (mkB x.txt), .int .i64 (x.d.k : Nat), .string (mkB x.d.t), .bool x.d.n, .slice lo ln lc, .slice none 0 0, .int .i64 (x.dat : Nat), .int .i64 (x.pl : Nat)] 61)).heap.size (w.alloc (.cells #[.int .i64 (x.kind : Nat), .string (mkB x.txt), .int .i64 (x.d.k : Nat), .string (mkB x.d.t), .bool x.d.n, .slice lo ln lc, .slice none 0 0, .int .i64 (x.dat : Nat), .int .i64 (x.pl : Nat)] 61))) nq
      have HS2 := Lib.hid (HS1.out.below hbq)
      have HB2 := Lib.hid (HB1.out.trans (hbq.mono HB1.out.size))
      have HX2 : Hid (((w.alloc (.cells #[.int .i64 (x.kind : Nat), .string (mkB x.txt), .int .i64 (x.d.k : Nat), .string (mkB x.d.t), .bool x.d.n, .slice lo ln lc, .slice none 0 0, .int .i64 (x.dat : Nat), .int .i64 (x.pl : Nat)] 61)).drewN nq).heap[w.heap.size]? = some (.cells #[.int .i64 (x.kind : Nat), .string (mkB x.txt), .int .i64 (x.d.k : Nat), .string (mkB x.d.t), .bool x.d.n, .slice lo ln lc, .slice none 0 0, .int .i64 (x.dat : Nat), .int .i64 (x.pl : Nat)] 61 (0, 0))) := Lib.hid HX1.out
      have s9 : ((w.alloc (.cells #[.int .i64 (x.kind : Nat), .string (mkB x.txt), .int .i64 (x.d.k : Nat), .string (mkB x.d.t), .bool x.d.n, .slice lo ln lc, .slice none 0 0, .int .i64 (x.dat : Nat), .int .i64 (x.pl : Nat)] 61)).drewN nq).cell? ⟨b, mt.length * 11 + 9, none⟩ = some (.slice mo q.l.length mcap) := r9
      have s10 : ((w.alloc (.cells #[.int .i64 (x.kind : Nat), .string (mkB x.txt), .int .i64 (x.d.k : Nat), .string (mkB x.d.t), .bool x.d.n, .slice lo ln lc, .slice none 0 0, .int .i64 (x.dat : Nat), .int .i64 (x.pl : Nat)] 61)).drewN nq).cell? ⟨b, mt.length * 11 + 10, none⟩ = some (.int .i64 (q.dot : Nat)) := r10
      have hsw : w.heap.size < ((w.alloc (.cells #[.int .i64 (x.kind : Nat), .string (mkB x.txt), .int .i64 (x.d.k : Nat), .string (mkB x.d.t), .bool x.d.n, .slice lo ln lc, .slice none 0 0, .int .i64 (x.dat : Nat), .int .i64 (x.pl : Nat)] 61)).drewN nq).heap.size := by simp
      clear hbq r9 r10
      generalize (w.alloc (.cells #[.int .i64 (x.kind : Nat), .string (mkB x.txt), .int .i64 (x.d.k : Nat), .string (mkB x.d.t), .bool x.d.n, .slice lo ln lc, .slice none 0 0, .int .i64 (x.dat : Nat), .int .i64 (x.pl : Nat)] 61)).drewN nq = W2 at *
      go_wp2_with fail
      refine (full_any b (mt.length * 11) q mo mcap W2 s9 s10).mono ?_
      rintro e w3 ⟨rfl, nq3, rfl⟩
      have hbq := below_drewN (Below.refl W2.heap.size W2) nq3
      have HS3 := Lib.hid (HS2.out.below hbq)
      have HB3 := Lib.hid (HB2.out.trans (hbq.mono HB2.out.size))
      have HX3 : Hid ((W2.drewN nq3).heap[w.heap.size]? = some (.cells #[.int .i64 (x.kind : Nat), .string (mkB x.txt), .int .i64 (x.d.k : Nat), .string (mkB x.d.t), .bool x.d.n, .slice lo ln lc, .slice none 0 0, .int .i64 (x.dat : Nat), .int .i64 (x.pl : Nat)] 61 (0, 0))) := Lib.hid HX2.out
      have hsw3 : w.heap.size < (W2.drewN nq3).heap.size := hsw
      clear hbq s9 s10 HS2 HX2
      generalize W2.drewN nq3 = W3 at *
      have hng : g ≠ w.heap.size := by omega
      have hng2 : w.heap.size ≠ g := by omega
      obtain ⟨c0, c1, c2, c3, f1, f2, f3⟩ := (show RB W3 g depth dp count _ from (by have := HS3.out.box; rw [HDP.out] at this; exact this)).facts
      have t0 := cell_heap HX3.out 0
      have t1 := cell_heap HX3.out 1
      have t2 := cell_heap HX3.out 2
      have t3 := cell_heap HX3.out 3
      have t4 := cell_heap HX3.out 4
      have t5 := cell_heap HX3.out 5
      have t6 := cell_heap HX3.out 6
      have t7 := cell_heap HX3.out 7
      have t8 := cell_heap HX3.out 8
      cases hf : fullA q with
      | true =>
        have HV : Hid (R = .error 3) := Lib.hid (HR.out.symm.trans (if_pos hf))
        clear hf
        go_wp2_with fail
        go_ret
        rw [HV.out]
        exact ⟨HB3.out.mono hbigw, rfl, HB3.out⟩
      | false =>
        have HF : Hid (¬ fullA q = true) := Lib.hid (by rw [hf]; simp)
        clear hf
        by_cases hd : depth < dp + 1
        · have h1 : decide ((depth : Int) < (dp : Int) + 1) = true := by rw [decide_eq_true_iff]; omega
          have h1b : decide (depth < dp + 1) = true := by rw [decide_eq_true_iff]; omega
          have HV : Hid (R = .error 5) := Lib.hid (HR.out.symm.trans ((if_neg HF.out).trans (if_pos (by rw [HDP.out, HSZ.out]; exact hd))))
          go_wp2_with fail
          go_region
          all_goals
            go_wp2_with fail
            go_ret
            rw [HV.out]
            exact ⟨HB3.out.drew.mono hbigw, rfl, HB3.out.drew⟩
        · have h1 : decide ((depth : Int) < (dp : Int) + 1) = false := by rw [decide_eq_false_iff_not]; omega
          have h1b : decide (depth < dp + 1) = false := by rw [decide_eq_false_iff_not]; omega
          by_cases hc : 8192 < count + 1
          · have h2 : decide ((8192 : Int) < (count : Int) + 1) = true := by rw [decide_eq_true_iff]; omega
            have h2b : decide (8192 < count + 1) = true := by rw [decide_eq_true_iff]; omega
            have HV : Hid (R = .error 6) := Lib.hid (HR.out.symm.trans ((if_neg HF.out).trans ((if_neg (by rw [HDP.out, HSZ.out]; exact hd)).trans (if_pos (by rw [HSZ.out]; exact hc)))))
            clear hd hc
            go_wp2_with fail
            go_region
            all_goals
              go_wp2_with fail
              go_ret
              rw [HV.out]
              exact ⟨HB3.out.drew.mono hbigw, rfl, HB3.out.drew⟩
          · have h2 : decide ((8192 : Int) < (count : Int) + 1) = false := by rw [decide_eq_false_iff_not]; omega
            have h2b : decide (8192 < count + 1) = false := by rw [decide_eq_false_iff_not]; omega
            have HC := Lib.hid hc
            have HS4 : Hid (RdS (W3.drew.setCell ⟨g, 2, none⟩ (.int .i64 ((count : Int) + 1))) g B depth (count + 1) (⟨q, .slice qlo qln qlc, .slice mo q.l.length mcap, qus⟩ :: mt) (.slice (some ⟨b, 0, none⟩) (mt.length + 1) cap)) := Lib.hid ((HS3.out.below (Below.refl W3.heap.size W3).drew).recount (count + 1) (by omega))
            have HB4 : Hid (Below B w (W3.drew.setCell ⟨g, 2, none⟩ (.int .i64 ((count : Int) + 1)))) := Lib.hid ((HB3.out.mono hbigw).drew.setCell hgB _)
            have HV : Hid (R = .ok (count + 1, addA (ptsA (⟨q, .slice qlo qln qlc, .slice mo q.l.length mcap, qus⟩ :: mt)) (leafD x))) := Lib.hid (HR.out.symm.trans ((if_neg HF.out).trans ((if_neg (by rw [HDP.out, HSZ.out]; exact hd)).trans ((if_neg (by rw [HSZ.out]; exact hc)).trans (if_pos HK7.out)))))
            clear hd hc
            go_wp2_with fail
            go_region
            all_goals
              go_wp2_with fail
              have hbl4 := HB4.out
              refine (add_any g B depth (count + 1) _ (⟨q, .slice qlo qln qlc, .slice mo q.l.length mcap, qus⟩ :: mt) (leafD x) [.int .i64 (x.d.k : Nat), .string (mkB x.d.t), .bool x.d.n, .slice lo ln lc, .slice none 0 0, .int .i64 (x.dat : Nat)] _ HS4.out HBA.out (((HLF.out HK7.out).move (P := fun b => b < B) ⟨hbl4.size, fun c _ hp => hbl4.block c hp⟩).mono fun c _ hp => HS4.out.mem.free_ge hp) (by have h1 := HWT.out; have h2 := HC.out; have h3 : (leafD x).sz = 1 := (by unfold leafD; rw [sz_sumA]; rfl); omega)).mono ?_
              rintro e w6 ⟨rfl, ms6, ov6, hp6, hs6, hb6⟩
              have HP6 := Lib.hid hp6
              have HS6 := Lib.hid hs6
              have HB6 := Lib.hid (hbl4.trans hb6)
              clear hp6 hs6 hb6 hbl4
              go_wp2_with fail
              go_ret
              rw [HV.out]
              exact ⟨HB6.out, rfl, ms6, ov6, HP6.out, HS6.out⟩
    · have h7 : (((x.kind : Nat) : Int) == 7) = false := by rw [beq_eq_false_iff_ne]; omega
      have HK7 : Hid (x.kind ≠ 7) := Lib.hid hk7
      clear hk7
      go_enter Tryz.func58, Tryz.ntmps58
      go_wp2_with fail
      refine (top_any g b mt.length cap depth dp count _ (by have := HS1.out.box; rw [HDP.out] at this; exact this) (by omega) hcap).mono ?_
      rintro e w2 ⟨rfl, nq, rfl⟩
      have hbq := below_drewN (Below.refl (w.alloc (.cells #[.int .i64 (x.kind : Nat), .string (mkB x.txt), .int .i64 (x.d.k : Nat), .string (mkB x.d.t), .bool x.d.n, .slice lo ln lc, .slice none 0 0, .int .i64 (x.dat : Nat), .int .i64 (x.pl : Nat)] 61)).heap.size (w.alloc (.cells #[.int .i64 (x.kind : Nat), .string (mkB x.txt), .int .i64 (x.d.k : Nat), .string (mkB x.d.t), .bool x.d.n, .slice lo ln lc, .slice none 0 0, .int .i64 (x.dat : Nat), .int .i64 (x.pl : Nat)] 61))) nq
      have HS2 := Lib.hid (HS1.out.below hbq)
      have HB2 := Lib.hid (HB1.out.trans (hbq.mono HB1.out.size))
      have HX2 : Hid (((w.alloc (.cells #[.int .i64 (x.kind : Nat), .string (mkB x.txt), .int .i64 (x.d.k : Nat), .string (mkB x.d.t), .bool x.d.n, .slice lo ln lc, .slice none 0 0, .int .i64 (x.dat : Nat), .int .i64 (x.pl : Nat)] 61)).drewN nq).heap[w.heap.size]? = some (.cells #[.int .i64 (x.kind : Nat), .string (mkB x.txt), .int .i64 (x.d.k : Nat), .string (mkB x.d.t), .bool x.d.n, .slice lo ln lc, .slice none 0 0, .int .i64 (x.dat : Nat), .int .i64 (x.pl : Nat)] 61 (0, 0))) := Lib.hid HX1.out
      have s9 : ((w.alloc (.cells #[.int .i64 (x.kind : Nat), .string (mkB x.txt), .int .i64 (x.d.k : Nat), .string (mkB x.d.t), .bool x.d.n, .slice lo ln lc, .slice none 0 0, .int .i64 (x.dat : Nat), .int .i64 (x.pl : Nat)] 61)).drewN nq).cell? ⟨b, mt.length * 11 + 9, none⟩ = some (.slice mo q.l.length mcap) := r9
      have s10 : ((w.alloc (.cells #[.int .i64 (x.kind : Nat), .string (mkB x.txt), .int .i64 (x.d.k : Nat), .string (mkB x.d.t), .bool x.d.n, .slice lo ln lc, .slice none 0 0, .int .i64 (x.dat : Nat), .int .i64 (x.pl : Nat)] 61)).drewN nq).cell? ⟨b, mt.length * 11 + 10, none⟩ = some (.int .i64 (q.dot : Nat)) := r10
      have hsw : w.heap.size < ((w.alloc (.cells #[.int .i64 (x.kind : Nat), .string (mkB x.txt), .int .i64 (x.d.k : Nat), .string (mkB x.d.t), .bool x.d.n, .slice lo ln lc, .slice none 0 0, .int .i64 (x.dat : Nat), .int .i64 (x.pl : Nat)] 61)).drewN nq).heap.size := by simp
      clear hbq r9 r10
      generalize (w.alloc (.cells #[.int .i64 (x.kind : Nat), .string (mkB x.txt), .int .i64 (x.d.k : Nat), .string (mkB x.d.t), .bool x.d.n, .slice lo ln lc, .slice none 0 0, .int .i64 (x.dat : Nat), .int .i64 (x.pl : Nat)] 61)).drewN nq = W2 at *
      go_wp2_with fail
      refine (full_any b (mt.length * 11) q mo mcap W2 s9 s10).mono ?_
      rintro e w3 ⟨rfl, nq3, rfl⟩
      have hbq := below_drewN (Below.refl W2.heap.size W2) nq3
      have HS3 := Lib.hid (HS2.out.below hbq)
      have HB3 := Lib.hid (HB2.out.trans (hbq.mono HB2.out.size))
      have HX3 : Hid ((W2.drewN nq3).heap[w.heap.size]? = some (.cells #[.int .i64 (x.kind : Nat), .string (mkB x.txt), .int .i64 (x.d.k : Nat), .string (mkB x.d.t), .bool x.d.n, .slice lo ln lc, .slice none 0 0, .int .i64 (x.dat : Nat), .int .i64 (x.pl : Nat)] 61 (0, 0))) := Lib.hid HX2.out
      have hsw3 : w.heap.size < (W2.drewN nq3).heap.size := hsw
      clear hbq s9 s10 HS2 HX2
      generalize W2.drewN nq3 = W3 at *
      have hng : g ≠ w.heap.size := by omega
      have hng2 : w.heap.size ≠ g := by omega
      obtain ⟨c0, c1, c2, c3, f1, f2, f3⟩ := (show RB W3 g depth dp count _ from (by have := HS3.out.box; rw [HDP.out] at this; exact this)).facts
      have t0 := cell_heap HX3.out 0
      have t1 := cell_heap HX3.out 1
      have t2 := cell_heap HX3.out 2
      have t3 := cell_heap HX3.out 3
      have t4 := cell_heap HX3.out 4
      have t5 := cell_heap HX3.out 5
      have t6 := cell_heap HX3.out 6
      have t7 := cell_heap HX3.out 7
      have t8 := cell_heap HX3.out 8
      cases hf : fullA q with
      | true =>
        have HV : Hid (R = .error 3) := Lib.hid (HR.out.symm.trans (if_pos hf))
        clear hf
        go_wp2_with fail
        go_ret
        rw [HV.out]
        exact ⟨HB3.out.mono hbigw, rfl, HB3.out⟩
      | false =>
        have HF : Hid (¬ fullA q = true) := Lib.hid (by rw [hf]; simp)
        clear hf
        by_cases hd : depth < dp + 1
        · have h1 : decide ((depth : Int) < (dp : Int) + 1) = true := by rw [decide_eq_true_iff]; omega
          have h1b : decide (depth < dp + 1) = true := by rw [decide_eq_true_iff]; omega
          have HV : Hid (R = .error 5) := Lib.hid (HR.out.symm.trans ((if_neg HF.out).trans (if_pos (by rw [HDP.out, HSZ.out]; exact hd))))
          go_wp2_with fail
          go_region
          all_goals
            go_wp2_with fail
            go_ret
            rw [HV.out]
            exact ⟨HB3.out.drew.mono hbigw, rfl, HB3.out.drew⟩
        · have h1 : decide ((depth : Int) < (dp : Int) + 1) = false := by rw [decide_eq_false_iff_not]; omega
          have h1b : decide (depth < dp + 1) = false := by rw [decide_eq_false_iff_not]; omega
          by_cases hc : 8192 < count + 1
          · have h2 : decide ((8192 : Int) < (count : Int) + 1) = true := by rw [decide_eq_true_iff]; omega
            have h2b : decide (8192 < count + 1) = true := by rw [decide_eq_true_iff]; omega
            have HV : Hid (R = .error 6) := Lib.hid (HR.out.symm.trans ((if_neg HF.out).trans ((if_neg (by rw [HDP.out, HSZ.out]; exact hd)).trans (if_pos (by rw [HSZ.out]; exact hc)))))
            clear hd hc
            go_wp2_with fail
            go_region
            all_goals
              go_wp2_with fail
              go_ret
              rw [HV.out]
              exact ⟨HB3.out.drew.mono hbigw, rfl, HB3.out.drew⟩
          · have h2 : decide ((8192 : Int) < (count : Int) + 1) = false := by rw [decide_eq_false_iff_not]; omega
            have h2b : decide (8192 < count + 1) = false := by rw [decide_eq_false_iff_not]; omega
            have HC := Lib.hid hc
            have HS4 : Hid (RdS (W3.drew.setCell ⟨g, 2, none⟩ (.int .i64 ((count : Int) + 1))) g B depth (count + 1) (⟨q, .slice qlo qln qlc, .slice mo q.l.length mcap, qus⟩ :: mt) (.slice (some ⟨b, 0, none⟩) (mt.length + 1) cap)) := Lib.hid ((HS3.out.below (Below.refl W3.heap.size W3).drew).recount (count + 1) (by omega))
            have HB4 : Hid (Below B w (W3.drew.setCell ⟨g, 2, none⟩ (.int .i64 ((count : Int) + 1)))) := Lib.hid ((HB3.out.mono hbigw).drew.setCell hgB _)
            have HV : Hid (R = .ok (count + 1, ⟨x, [], 0⟩ :: ptsA (⟨q, .slice qlo qln qlc, .slice mo q.l.length mcap, qus⟩ :: mt))) := Lib.hid (HR.out.symm.trans ((if_neg HF.out).trans ((if_neg (by rw [HDP.out, HSZ.out]; exact hd)).trans ((if_neg (by rw [HSZ.out]; exact hc)).trans ((if_neg HK7.out).trans (by rw [HSZ.out]))))))
            clear hd hc
            go_wp2_with fail
            go_region
            all_goals
              go_wp2_with fail
              refine (push_any g B depth dp (count + 1) _ (⟨q, .slice qlo qln qlc, .slice mo q.l.length mcap, qus⟩ :: mt) x lo ln lc _ HS4.out.mem (by have := HS4.out.box; rw [HDP.out] at this; exact this) (by simp; omega) (by omega) HS4.out.big).mono ?_
              rintro e w6 ⟨rfl, ov6, hm6, hb6, hbl6⟩
              have HS6 := Lib.hid (HS4.out.pushed HX.out H0.out (by simp; omega) (by have h1 := HWT.out; have h2 := HC.out; have h3 := ownA_sz x; have h4 := HSZ.out; omega) hm6 (by rw [HDP.out]; exact hb6) hbl6)
              have HB6 := Lib.hid (HB4.out.trans hbl6)
              clear hm6 hb6 hbl6
              go_wp2_with fail
              go_ret
              rw [HV.out]
              exact ⟨HB6.out, rfl, _, _, rfl, HS6.out⟩
end Go.Proofs.YtpahfhjgcflifaaGreatDoor
namespace Go.Proofs.YtpahfhjgcflifaaGreatDoor
open Go.RowKit

def closA (count : Nat) (p : Pt) (ps : List Pt) : Except Nat (Nat × List Pt) := if (p.w.kind ≠ 1 ∧ p.w.kind ≠ 3) ∨ lacksA p = true then .error 3 else .ok (count, addA ps (datA p))
theorem takeA_cases (depth count : Nat) (p : Pt) (ps : List Pt) (x : Wd) : takeA depth count (p :: ps) x = if x.kind = 2 then closA count p ps else if x.kind = 4 then dotA p ps count else if x.kind = 5 then .ok (count, ⟨x, [], 0⟩ :: p :: ps) else beginA depth count p (p :: ps) x := rfl
theorem RdTake.back {g B depth : Nat} {r : Except Nat (Nat × List Pt)} {w w1 w' : World} {e : Ending} (h : RdTake g B depth r w1 e w') (hb : Below w.heap.size w w1) (hB : B ≤ w.heap.size) : RdTake g B depth r w e w' := ⟨(hb.mono hB).trans h.1, by
  have h2 := h.2
  cases r with
  | error c => exact ⟨h2.1, hb.trans (h2.2.mono hb.size)⟩
  | ok c => exact h2⟩
def errOf (r : Except Nat (Nat × List Pt)) : Nat := match r with
  | .error c => c
  | .ok _ => 0
theorem RdTake.ret {g B depth : Nat} {r : Except Nat (Nat × List Pt)} {w w' : World} {e : Ending} (h : RdTake g B depth r w e w') : e = .returned (.int .i64 ((errOf r : Nat) : Int)) := by
  obtain ⟨_, h⟩ := h
  cases r with
  | error c => exact h.1
  | ok c => exact h.1

set_option maxRecDepth 100000 in
set_option maxHeartbeats 8000000 in
theorem rtake_any (g B depth count : Nat) (ov : Value) (ms : List PM) (x : Wd) (lo : Option Addr) (ln lc : Nat) (w : World) (hS : RdS w g B depth count ms ov) (hbase : Base (ptsA ms)) (hdep : depth ≤ 64) (hcnt : count ≤ 8192) (hwt : wtA (ptsA ms) ≤ count) (hlen : ms.length + 1 ≤ 2000000) (hx : WdOk x) (hlf : x.kind = 7 → LayP (fun b => b < B) w (leafD x) [.int .i64 (x.d.k : Nat), .string (mkB x.d.t), .bool x.d.n, .slice lo ln lc, .slice none 0 0, .int .i64 (x.dat : Nat)]) (h0 : x.kind ≠ 0) :
    Calls Tryz.prog 33 #[.pointer (some ⟨g, 0, none⟩), .agg (wdL x (.slice lo ln lc)).toArray] w (RdTake g B depth (takeA depth count (ptsA ms) x) w) := by
  obtain ⟨m, mt, rfl⟩ : ∃ m mt, ms = m :: mt := by
    cases ms with
    | nil => exact absurd rfl hbase.ne
    | cons m mt => exact ⟨m, mt, rfl⟩
  have HS := Lib.hid hS
  have HBA := Lib.hid hbase
  have HX := Lib.hid hx
  have HLF := Lib.hid hlf
  have HWT := Lib.hid hwt
  have HL := Lib.hid hlen
  have hgw := hS.box.lt
  clear hS hbase hx hlf hwt hlen
  have hb1 := below1 w (.cells #[.int .i64 (x.kind : Nat), .string (mkB x.txt), .int .i64 (x.d.k : Nat), .string (mkB x.d.t), .bool x.d.n, .slice lo ln lc, .slice none 0 0, .int .i64 (x.dat : Nat), .int .i64 (x.pl : Nat)] 61)
  have hx1 := heap_alloc_new w (.cells #[.int .i64 (x.kind : Nat), .string (mkB x.txt), .int .i64 (x.d.k : Nat), .string (mkB x.d.t), .bool x.d.n, .slice lo ln lc, .slice none 0 0, .int .i64 (x.dat : Nat), .int .i64 (x.pl : Nat)] 61)
  have HB1 := Lib.hid hb1
  have HBG : Hid (Below B w (w.alloc (.cells #[.int .i64 (x.kind : Nat), .string (mkB x.txt), .int .i64 (x.d.k : Nat), .string (mkB x.d.t), .bool x.d.n, .slice lo ln lc, .slice none 0 0, .int .i64 (x.dat : Nat), .int .i64 (x.pl : Nat)] 61))) := Lib.hid (hb1.mono HS.out.big)
  have HS1 := Lib.hid (HS.out.below hb1)
  have t0 := cell_heap hx1 0
  have t1 := cell_heap hx1 1
  have t2 := cell_heap hx1 2
  have t3 := cell_heap hx1 3
  have t4 := cell_heap hx1 4
  have t5 := cell_heap hx1 5
  have t6 := cell_heap hx1 6
  have t7 := cell_heap hx1 7
  have t8 := cell_heap hx1 8
  have HLF1 : Hid (x.kind = 7 → LayP (fun b => b < B) (w.alloc (.cells #[.int .i64 (x.kind : Nat), .string (mkB x.txt), .int .i64 (x.d.k : Nat), .string (mkB x.d.t), .bool x.d.n, .slice lo ln lc, .slice none 0 0, .int .i64 (x.dat : Nat), .int .i64 (x.pl : Nat)] 61)) (leafD x) [.int .i64 (x.d.k : Nat), .string (mkB x.d.t), .bool x.d.n, .slice lo ln lc, .slice none 0 0, .int .i64 (x.dat : Nat)]) := Lib.hid fun h => (HLF.out h).move (Keeps.of_below hb1)
  clear hb1 hx1
  show Calls Tryz.prog 33 #[.pointer (some ⟨g, 0, none⟩), .agg #[.int .i64 (x.kind : Nat), .string (mkB x.txt), .int .i64 (x.d.k : Nat), .string (mkB x.d.t), .bool x.d.n, .slice lo ln lc, .slice none 0 0, .int .i64 (x.dat : Nat), .int .i64 (x.pl : Nat)]] w (RdTake g B depth (takeA depth count (m.q :: ptsA mt) x) w)
  rw [takeA_cases]
  by_cases hk2 : x.kind = 2
  · have h2 : (((x.kind : Nat) : Int) == 2) = true := by rw [hk2]; rfl
    rw [if_pos hk2]
    have HC : Hid (Calls Tryz.prog 55 #[.pointer (some ⟨g, 0, none⟩)] (w.alloc (.cells #[.int .i64 (x.kind : Nat), .string (mkB x.txt), .int .i64 (x.d.k : Nat), .string (mkB x.d.t), .bool x.d.n, .slice lo ln lc, .slice none 0 0, .int .i64 (x.dat : Nat), .int .i64 (x.pl : Nat)] 61)) (RdTake g B depth (closA count m.q (ptsA mt)) (w.alloc (.cells #[.int .i64 (x.kind : Nat), .string (mkB x.txt), .int .i64 (x.d.k : Nat), .string (mkB x.d.t), .bool x.d.n, .slice lo ln lc, .slice none 0 0, .int .i64 (x.dat : Nat), .int .i64 (x.pl : Nat)] 61)))) := Lib.hid (end_any g B depth count ov m mt _ HS1.out HBA.out)
    clear hk2
    generalize closA count m.q (ptsA mt) = R at *
    go_enter Tryz.func33, Tryz.ntmps33
    go_wp2_with fail
    refine HC.out.mono ?_
    rintro e w2 h
    have he := h.ret
    subst he
    have HH := Lib.hid (h.back HB1.out HS.out.big)
    clear h
    go_wp2_with fail
    go_ret
    exact HH.out
  have h2 : (((x.kind : Nat) : Int) == 2) = false := by rw [beq_eq_false_iff_ne]; omega
  rw [if_neg hk2]
  by_cases hk4 : x.kind = 4
  · have h4 : (((x.kind : Nat) : Int) == 4) = true := by rw [hk4]; rfl
    rw [if_pos hk4]
    have HC : Hid (Calls Tryz.prog 56 #[.pointer (some ⟨g, 0, none⟩)] (w.alloc (.cells #[.int .i64 (x.kind : Nat), .string (mkB x.txt), .int .i64 (x.d.k : Nat), .string (mkB x.d.t), .bool x.d.n, .slice lo ln lc, .slice none 0 0, .int .i64 (x.dat : Nat), .int .i64 (x.pl : Nat)] 61)) (RdTake g B depth (dotA m.q (ptsA mt) count) (w.alloc (.cells #[.int .i64 (x.kind : Nat), .string (mkB x.txt), .int .i64 (x.d.k : Nat), .string (mkB x.d.t), .bool x.d.n, .slice lo ln lc, .slice none 0 0, .int .i64 (x.dat : Nat), .int .i64 (x.pl : Nat)] 61)))) := Lib.hid (dot_any g B depth count ov m mt _ HS1.out)
    clear hk2 hk4
    generalize dotA m.q (ptsA mt) count = R at *
    go_enter Tryz.func33, Tryz.ntmps33
    go_wp2_with fail
    refine HC.out.mono ?_
    rintro e w2 h
    have he := h.ret
    subst he
    have HH := Lib.hid (h.back HB1.out HS.out.big)
    clear h
    go_wp2_with fail
    go_ret
    exact HH.out
  have h4 : (((x.kind : Nat) : Int) == 4) = false := by rw [beq_eq_false_iff_ne]; omega
  rw [if_neg hk4]
  by_cases hk5 : x.kind = 5
  · have h5 : (((x.kind : Nat) : Int) == 5) = true := by rw [hk5]; rfl
    rw [if_pos hk5]
    have HD : Hid (ownA ⟨x, [], 0⟩ = 0) := Lib.hid (by unfold ownA; rw [if_neg (by show ¬ (x.kind = 1 ∨ x.kind = 3); omega), if_neg (by show ¬ x.kind = 6; omega)])
    have hdeep := HS1.out.deep
    have hll := HL.out
    simp only [List.length_cons] at hll
    clear hk2 hk4 hk5
    go_enter Tryz.func33, Tryz.ntmps33
    go_wp2_with fail
    refine (push_any g B depth (deepA (ptsA (m :: mt))) count ov (m :: mt) x lo ln lc _ HS1.out.mem HS1.out.box (by simp; omega) (by omega) HS1.out.big).mono ?_
    rintro e w6 ⟨rfl, ov6, hm6, hb6, hbl6⟩
    have HS6 := Lib.hid (HS1.out.pushed HX.out h0 HL.out (by have h1 := HWT.out; have h3 := HD.out; omega) hm6 hb6 hbl6)
    have HB6 := Lib.hid (HBG.out.trans hbl6)
    clear hm6 hb6 hbl6
    go_wp2_with fail
    go_ret
    exact ⟨HB6.out, rfl, _, _, rfl, HS6.out⟩
  · have h5 : (((x.kind : Nat) : Int) == 5) = false := by rw [beq_eq_false_iff_ne]; omega
    rw [if_neg hk5]
    have HC : Hid (Calls Tryz.prog 58 #[.pointer (some ⟨g, 0, none⟩), .agg #[.int .i64 (x.kind : Nat), .string (mkB x.txt), .int .i64 (x.d.k : Nat), .string (mkB x.d.t), .bool x.d.n, .slice lo ln lc, .slice none 0 0, .int .i64 (x.dat : Nat), .int .i64 (x.pl : Nat)]] (w.alloc (.cells #[.int .i64 (x.kind : Nat), .string (mkB x.txt), .int .i64 (x.d.k : Nat), .string (mkB x.d.t), .bool x.d.n, .slice lo ln lc, .slice none 0 0, .int .i64 (x.dat : Nat), .int .i64 (x.pl : Nat)] 61)) (RdTake g B depth (beginA depth count m.q (m.q :: ptsA mt) x) (w.alloc (.cells #[.int .i64 (x.kind : Nat), .string (mkB x.txt), .int .i64 (x.d.k : Nat), .string (mkB x.d.t), .bool x.d.n, .slice lo ln lc, .slice none 0 0, .int .i64 (x.dat : Nat), .int .i64 (x.pl : Nat)] 61)))) := Lib.hid (begin_any g B depth count ov m mt x lo ln lc _ HS1.out HBA.out hdep hcnt HWT.out HL.out HX.out HLF1.out h0)
    clear hk2 hk4 hk5
    generalize beginA depth count m.q (m.q :: ptsA mt) x = R at *
    go_enter Tryz.func33, Tryz.ntmps33
    go_wp2_with fail
    refine HC.out.mono ?_
    rintro e w2 h
    have he := h.ret
    subst he
    have HH := Lib.hid (h.back HB1.out HS.out.big)
    clear h
    go_wp2_with fail
    go_ret
    exact HH.out
end Go.Proofs.YtpahfhjgcflifaaGreatDoor
