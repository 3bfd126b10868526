/- The reader, walked: add. -/
import Derived.Test.YtpahfhjgcflifaaGreatDoorRdWalk
namespace Go.Proofs.YtpahfhjgcflifaaGreatDoor
open Go.RowKit

/-- What a word may be: its texts are bytes. -/
def WdOk (x : Wd) : Prop := By x.txt ∧ x.txt.length ≤ maxLen
def ptsA (ms : List PM) : List Pt := ms.map PM.q
/-- What the reader's state is, in memory. -/
structure RdS (w : World) (g B depth count : Nat) (ms : List PM) (ov : Value) : Prop where
  mem : RdM w g B ov ms
  box : RB w g depth (deepA (ptsA ms)) count ov
  big : B ≤ w.heap.size
  len : ms.length ≤ 2000000
  words : ∀ m ∈ ms, WdOk m.q.w
  dots : ∀ m ∈ ms, m.q.dot ≤ m.q.l.length
  wt : wtA (ptsA ms) ≤ 8192
theorem RdS.below {w w' : World} {g B depth count : Nat} {ms : List PM} {ov : Value} (h : RdS w g B depth count ms ov) (hb : Below w.heap.size w w') : RdS w' g B depth count ms ov :=
  ⟨h.mem.below hb, h.box.step hb, Nat.le_trans h.big hb.size, h.len, h.words, h.dots, h.wt⟩
theorem RdS.deep {w : World} {g B depth count : Nat} {ms : List PM} {ov : Value} (h : RdS w g B depth count ms ov) : deepA (ptsA ms) ≤ 2000000 := by
  have := List.countP_le_length (p := fun p : Pt => decide (p.w.kind ≠ 0 ∧ p.w.kind ≠ 5)) (l := ptsA ms)
  have h2 : (ptsA ms).length = ms.length := by simp [ptsA]
  have h3 := h.len
  unfold deepA
  omega
def AddPost (g B depth count : Nat) (ps : List Pt) (w : World) (e : Ending) (w' : World) : Prop :=
  e = .returned (.tuple #[]) ∧ ∃ ms' ov', ptsA ms' = ps ∧ RdS w' g B depth count ms' ov' ∧ Below B w w'
theorem deepA_cons (p : Pt) (ps : List Pt) (h0 : p.w.kind ≠ 0) : deepA (p :: ps) = deepA ps + dpW p.w := by
  unfold deepA dpW
  rw [List.countP_cons]
  by_cases h5 : p.w.kind = 5
  · simp [h5]
  · simp [h5, h0]
theorem deepA_same {p q : Pt} (ps : List Pt) (h : q.w = p.w) : deepA (q :: ps) = deepA (p :: ps) := by
  unfold deepA
  rw [List.countP_cons, List.countP_cons, h]
/-- What a pop leaves. -/
theorem RdS.popped {w w' : World} {g B b cap depth count : Nat} {m : PM} {ms : List PM} (h : RdS w g B depth count (m :: ms) (.slice (some ⟨b, 0, none⟩) (ms.length + 1) cap)) (h0 : m.q.w.kind ≠ 0) (hb : RB w' g depth (deepA (ptsA (m :: ms)) - dpW m.q.w) count (.slice (some ⟨b, 0, none⟩) ms.length cap)) (hk : Keeps (fun x => x ≠ g) w w') (hl : Below B w w') : RdS w' g B depth count ms (.slice (some ⟨b, 0, none⟩) ms.length cap) := by
  refine ⟨h.mem.pop.1.keep hk, ?_, Nat.le_trans h.big hl.size, by have := h.len; simp at this; omega, fun x hx => h.words x (List.mem_cons_of_mem _ hx), fun x hx => h.dots x (List.mem_cons_of_mem _ hx), ?_⟩
  · have e : deepA (ptsA (m :: ms)) - dpW m.q.w = deepA (ptsA ms) := by
      show deepA (m.q :: ptsA ms) - dpW m.q.w = _
      rw [deepA_cons _ _ h0]
      omega
    rw [e] at hb
    exact hb
  · have : wtA (ptsA (m :: ms)) = ownA m.q + sumA m.q.l + wtA (ptsA ms) := rfl
    have := h.wt
    omega
theorem addA_abb {p : Pt} {ps : List Pt} {d : Dm} (h : p.w.kind = 6) : addA (p :: ps) d = addA ps (abbA p.w d) := by
  show (if p.w.kind = 6 then addA ps (abbA p.w d) else if p.w.kind = 5 then ps else { p with l := p.l ++ [d] } :: ps) = _
  rw [if_pos h]
theorem addA_skip {p : Pt} {ps : List Pt} {d : Dm} (h : p.w.kind = 5) : addA (p :: ps) d = ps := by
  show (if p.w.kind = 6 then addA ps (abbA p.w d) else if p.w.kind = 5 then ps else { p with l := p.l ++ [d] } :: ps) = _
  rw [if_neg (by omega), if_pos h]
theorem addA_put {p : Pt} {ps : List Pt} {d : Dm} (h6 : p.w.kind ≠ 6) (h5 : p.w.kind ≠ 5) : addA (p :: ps) d = { p with l := p.l ++ [d] } :: ps := by
  show (if p.w.kind = 6 then addA ps (abbA p.w d) else if p.w.kind = 5 then ps else { p with l := p.l ++ [d] } :: ps) = _
  rw [if_neg h6, if_neg h5]
theorem abbA_sz (x : Wd) (d : Dm) : (abbA x d).sz = 2 + d.sz := by
  unfold abbA
  rw [sz_sumA]
  simp only [sumA, List.map_cons, List.sum_cons, List.map_nil, List.sum_nil, sz_sumA]
  omega
theorem field_word (a0 a1 a2 a3 a4 a5 a6 a7 a8 a9 a10 : Value) (w : World) : Sem.run Tryz.prog (Instr.field 63 (.agg #[a0, a1, a2, a3, a4, a5, a6, a7, a8, a9, a10]) 0) w = .ok (.agg #[a0, a1, a2, a3, a4, a5, a6, a7, a8]) w := by kernel_rfl
theorem fill6 {W : World} {g : Nat} {z0 z1 z2 z3 z4 z5 : Value} {e : TypeId} (h : W.heap[g]? = some (.cells #[z0, z1, z2, z3, z4, z5] e (0, 0))) (a0 a1 a2 a3 a4 a5 : Value) :
    ((((((W.setCell ⟨g, 0, none⟩ a0).setCell ⟨g, 1, none⟩ a1).setCell ⟨g, 2, none⟩ a2).setCell ⟨g, 3, none⟩ a3).setCell ⟨g, 4, none⟩ a4).setCell ⟨g, 5, none⟩ a5).heap[g]? = some (.cells #[a0, a1, a2, a3, a4, a5] e (0, 0)) ∧
    Ks g W ((((((W.setCell ⟨g, 0, none⟩ a0).setCell ⟨g, 1, none⟩ a1).setCell ⟨g, 2, none⟩ a2).setCell ⟨g, 3, none⟩ a3).setCell ⟨g, 4, none⟩ a4).setCell ⟨g, 5, none⟩ a5) := by
  refine ⟨?_, ((((((Ks.refl g W).set 0 _).set 1 _).set 2 _).set 3 _).set 4 _).set 5 _⟩
  rw [rowSet (rowSet (rowSet (rowSet (rowSet (rowSet h 0 a0) 1 a1) 2 a2) 3 a3) 4 a4) 5 a5]
  simp
theorem own_facts {w : World} {B : Nat} {e : TypeId} {size g n cap : Nat} {xs : List Value} (h : w.ownsRow B e size (.slice (some ⟨g, 0, none⟩) n cap) n xs) : (∀ j u, xs[j]? = some u → w.cell? ⟨g, j, none⟩ = some u) ∧ ∀ j, w.frozen? ⟨g, j, none⟩ = false := by
  obtain ⟨h1, h2⟩ := h
  rcases h2 with ⟨h2, _⟩ | ⟨g', cap', cur, h2, hb, hc, hn, hm, hs, ht⟩
  · cases h2
  · simp only [Value.slice.injEq, Option.some.injEq, Addr.mk.injEq, true_and, and_true] at h2
    obtain ⟨rfl, rfl⟩ := h2
    refine ⟨fun j u hu => ?_, fun j => frozen_heap hc j⟩
    rw [cell_of_row w g j cur e (0, 0) hc, ← Array.getElem?_toList]
    rw [← ht, List.getElem?_take] at hu
    split at hu
    · exact hu
    · cases hu
theorem setCell_comm (w : World) (a c : Addr) (u v : Value) (h : a.block ≠ c.block) : (w.setCell a u).setCell c v = (w.setCell c v).setCell a u := by
  unfold World.setCell
  simp only [World.mk.injEq, and_true]
  apply Array.ext
  · simp
  · intro i h1 h2
    simp only [Array.getElem_modify]
    by_cases e1 : a.block = i <;> by_cases e2 : c.block = i <;> simp_all
theorem set6 {l : List Value} {k : Nat} (hk : l.length = k) (z0 z1 z2 z3 z4 z5 a0 a1 a2 a3 a4 a5 : Value) : (((((((l ++ [z0, z1, z2, z3, z4, z5]).set k a0).set (k + 1) a1).set (k + 2) a2).set (k + 3) a3).set (k + 4) a4).set (k + 5) a5) = l ++ [a0, a1, a2, a3, a4, a5] := by
  subst hk
  simp []
/-- A datum stored into a row's last place. -/
theorem own_put {w : World} {B g n cap : Nat} {us : List Value} {z0 z1 z2 z3 z4 z5 : Value} (h : w.ownsRow B 27 6 (.slice (some ⟨g, 0, none⟩) (n + 1) cap) (n + 1) (us ++ [z0, z1, z2, z3, z4, z5])) (hu : us.length = n * 6) (a0 a1 a2 a3 a4 a5 : Value) :
    ((((((w.setCell ⟨g, n * 6, none⟩ a0).setCell ⟨g, n * 6 + 1, none⟩ a1).setCell ⟨g, n * 6 + 2, none⟩ a2).setCell ⟨g, n * 6 + 3, none⟩ a3).setCell ⟨g, n * 6 + 4, none⟩ a4).setCell ⟨g, n * 6 + 5, none⟩ a5).ownsRow B 27 6 (.slice (some ⟨g, 0, none⟩) (n + 1) cap) (n + 1) (us ++ [a0, a1, a2, a3, a4, a5]) := by
  have h1 := ownsRow_set (j := n * 6) h (by simp; omega) a0
  have h2 := ownsRow_set (j := n * 6 + 1) h1 (by simp; omega) a1
  have h3 := ownsRow_set (j := n * 6 + 2) h2 (by simp; omega) a2
  have h4 := ownsRow_set (j := n * 6 + 3) h3 (by simp; omega) a3
  have h5 := ownsRow_set (j := n * 6 + 4) h4 (by simp; omega) a4
  have h6 := ownsRow_set (j := n * 6 + 5) h5 (by simp; omega) a5
  rw [set6 hu] at h6
  exact h6
theorem keeps6 (w : World) (g o0 o1 o2 o3 o4 o5 : Nat) (a0 a1 a2 a3 a4 a5 : Value) : Ks g w ((((((w.setCell ⟨g, o0, none⟩ a0).setCell ⟨g, o1, none⟩ a1).setCell ⟨g, o2, none⟩ a2).setCell ⟨g, o3, none⟩ a3).setCell ⟨g, o4, none⟩ a4).setCell ⟨g, o5, none⟩ a5) := ((((((Ks.refl g w).set o0 _).set o1 _).set o2 _).set o3 _).set o4 _).set o5 _
theorem Free.pop {g b n cap : Nat} {m : PM} {ms : List PM} {x : Nat} (h : Free g (.slice (some ⟨b, 0, none⟩) (n + 1) cap) (m :: ms) x) : Free g (.slice (some ⟨b, 0, none⟩) n cap) ms x := ⟨h.1, h.2.1, fun y hy => h.2.2 y (List.mem_cons_of_mem _ hy)⟩
/-- A datum's six cells in a box. -/
def DBx (w : World) (n : Nat) (us : List Value) : Prop := w.heap[n]? = some (.cells us.toArray 27 (0, 0))

set_option maxRecDepth 100000 in
set_option maxHeartbeats 8000000 in
theorem add_any (g B depth count : Nat) (ov : Value) (ms : List PM) (d : Dm) (us : List Value) (w : World) (hS : RdS w g B depth count ms ov) (hbase : Base (ptsA ms)) (hd : LayP (Free g ov ms) w d us) (hwt : wtA (ptsA ms) + d.sz ≤ 8192) :
    Calls Tryz.prog 83 #[.pointer (some ⟨g, 0, none⟩), .agg us.toArray] w (AddPost g B depth count (addA (ptsA ms) d) w) := by
  obtain ⟨i1, hi1, hy0, hy1, hy2⟩ := info_parts infoDat
  have HS := Lib.hid hS
  have HBS := Lib.hid hbase
  have HD := Lib.hid hd
  have HWT := Lib.hid hwt
  have hgw := hS.box.lt
  have hbigw := hS.big
  obtain ⟨k, t, n, r, l, a⟩ := d
  obtain ⟨lv, av, xs, rfl, _, _, _, hr, _, hrow1, _⟩ := hd.row
  obtain ⟨ao, cv0, rfl⟩ : ∃ o c, av = .slice o l.length c := by obtain ⟨_, _, o, c, h, _⟩ := hrow1; exact ⟨o, c, h⟩
  obtain ⟨lo0, lc0, rfl⟩ : ∃ o c, lv = .slice o r.length c := by obtain ⟨_, o, c, h, _⟩ := hr; exact ⟨o, c, h⟩
  clear hS hbase hd hwt hr hrow1
  have hb1 := below1 w (.cells #[.int .i64 k, .string (mkB t), .bool n, .slice lo0 r.length lc0, .slice ao l.length cv0, .int .i64 a] 27)
  have HB1 := Lib.hid hb1
  have HX1 := Lib.hid (box1 w #[.int .i64 k, .string (mkB t), .bool n, .slice lo0 r.length lc0, .slice ao l.length cv0, .int .i64 a] 27)
  clear hb1
  show Calls Tryz.prog 83 #[.pointer (some ⟨g, 0, none⟩), .agg #[.int .i64 k, .string (mkB t), .bool n, .slice lo0 r.length lc0, .slice ao l.length cv0, .int .i64 a]] w _
  go_enter Tryz.func83, Tryz.ntmps83
  go_wp2_with fail
  go_loopg [] ms.length (fun gk wr => ∃ (mc : List PM) (oc : Value) (dc : Dm) (uc : List Value), RdM w g B oc mc ∧ Keeps (fun b => b ≠ g) w wr ∧ RdS wr g B depth count mc oc ∧ Base (ptsA mc) ∧ LayP (fun b => Free g oc mc b ∧ b ≠ w.heap.size) wr dc uc ∧ DBx wr w.heap.size uc ∧ addA (ptsA mc) dc = addA (ptsA ms) (.mk k t n r l a) ∧ wtA (ptsA mc) + dc.sz ≤ 8192 ∧ Below B w wr ∧ w.heap.size < wr.heap.size ∧ mc.length ≤ gk)
  case atStart => exact ⟨ms, ov, .mk k t n r l a, _, HS.out.mem, Keeps.of_below HB1.out, HS.out.below HB1.out, HBS.out, (HD.out.mono fun b hb hp => ⟨hp, by omega⟩).move (Keeps.of_below HB1.out), HX1.out, rfl, HWT.out, HB1.out.mono HS.out.big, by simp, Nat.le_refl _⟩
  case round =>
    obtain ⟨mc, oc, dc, uc, hm0, hk0, hs, hba, hly, hbx, hadd, hwt, hbg, hsz, hgk⟩ := hrel
    obtain ⟨m, mt, rfl⟩ : ∃ m mt, mc = m :: mt := by
      cases mc with
      | nil => exact absurd rfl hba.ne
      | cons m mt => exact ⟨m, mt, rfl⟩
    obtain ⟨b, cap, rfl, hcap, hBb, hbw, hcell, hfroz⟩ := hs.mem.top
    obtain ⟨lo, ln, lc, hlv⟩ := hs.mem.lvs m (by simp)
    obtain ⟨mo, mcap, hav⟩ := own_dslice (hs.mem.lists m (by simp))
    obtain ⟨q, qlv, qav, qus⟩ := m
    simp only at hlv hav
    subst hlv
    subst hav
    have hlen := hs.len
    simp only [List.length_cons] at hlen hgk
    have HM0 := Lib.hid hm0
    have HK0 := Lib.hid hk0
    have HSS := Lib.hid hs
    have HBA := Lib.hid hba
    have HLY := Lib.hid hly
    have HBX := Lib.hid hbx
    have HADD := Lib.hid hadd
    have HW := Lib.hid hwt
    have HBG := Lib.hid hbg
    have p0 := hcell 0 _ rfl
    have p9 := hcell 9 _ rfl
    simp only [Nat.add_zero] at p0
    have f9 := hfroz (mt.length * 11 + 9)
    clear hm0 hk0 hs hba hly hbx hadd hwt hbg hcell hfroz
    go_wp2_with fail
    refine (top_any g b mt.length cap depth (deepA (ptsA (⟨q, .slice lo ln lc, .slice mo q.l.length mcap, qus⟩ :: mt))) count _ HSS.out.box (by omega) hcap).mono ?_
    rintro e w2 ⟨rfl, nq, rfl⟩
    have hbq := below_drewN (Below.refl wr.heap.size wr) nq
    have HS2 := Lib.hid (HSS.out.below hbq)
    have HLY2 := Lib.hid (HLY.out.move (Keeps.of_below hbq))
    have HK2 := Lib.hid (HK0.out.trans (Keeps.of_below hbq))
    have HBX2 : Hid (DBx (wr.drewN nq) w.heap.size uc) := Lib.hid HBX.out
    have HBG2 := Lib.hid (HBG.out.trans (hbq.mono HSS.out.big))
    have q0 : (wr.drewN nq).cell? ⟨b, mt.length * 11, none⟩ = some (.int .i64 (q.w.kind : Nat)) := p0
    have q9 : (wr.drewN nq).cell? ⟨b, mt.length * 11 + 9, none⟩ = some (.slice mo q.l.length mcap) := p9
    have g9 : (wr.drewN nq).frozen? ⟨b, mt.length * 11 + 9, none⟩ = false := f9
    have hsz2 : w.heap.size < (wr.drewN nq).heap.size := hsz
    have hbw2 : b < (wr.drewN nq).heap.size := hbw
    obtain ⟨uk, ut, un, ur, ul, ua⟩ := dc
    obtain ⟨ulv, uav, uxs, rfl, _, _, _, hur, _, hurow, _⟩ := HLY2.out.row
    obtain ⟨uo, uc0, rfl⟩ : ∃ o c, uav = .slice o ul.length c := by obtain ⟨_, _, o, c, h, _⟩ := hurow; exact ⟨o, c, h⟩
    obtain ⟨ulo, ulc, rfl⟩ : ∃ o c, ulv = .slice o ur.length c := by obtain ⟨_, o, c, h, _⟩ := hur; exact ⟨o, c, h⟩
    obtain ⟨d0, d1, d2, d3, d4, d5⟩ := row6 HBX2.out
    clear hbq p0 p9 f9 HSS HLY HBX HBG hsz hbw hur hurow
    generalize wr.drewN nq = W2 at *
    by_cases h6 : q.w.kind = 6
    · have hq6 : (((q.w.kind : Nat) : Int) == 6) = true := by rw [h6]; rfl
      have hwx := HS2.out.words _ List.mem_cons_self
      have HWX := Lib.hid hwx
      have hdeep := HS2.out.deep
      have HDP : Hid (dpW q.w ≤ deepA (ptsA (⟨q, .slice lo ln lc, .slice mo q.l.length mcap, qus⟩ :: mt))) := Lib.hid (by
        show dpW q.w ≤ deepA (q :: ptsA mt)
        rw [deepA_cons _ _ (by omega)]
        omega)
      have hgw2 := HS2.out.box.lt
      have hng : w.heap.size ≠ g := by omega
      have hdr := (Below.refl W2.heap.size W2).drew
      have HCP : Hid (Calls Tryz.prog 82 #[.pointer (some ⟨g, 0, none⟩)] W2.drew fun e w' => e = .returned (.agg #[.int .i64 (q.w.kind : Nat), .string (mkB q.w.txt), .int .i64 (q.w.d.k : Nat), .string (mkB q.w.d.t), .bool q.w.d.n, .slice lo ln lc, .slice none 0 0, .int .i64 (q.w.dat : Nat), .int .i64 (q.w.pl : Nat), .slice mo q.l.length mcap, .int .i64 (q.dot : Nat)]) ∧ RB w' g depth (deepA (ptsA (⟨q, .slice lo ln lc, .slice mo q.l.length mcap, qus⟩ :: mt)) - dpW q.w) count (.slice (some ⟨b, 0, none⟩) mt.length cap) ∧ Keeps (fun x => x ≠ g) W2.drew w' ∧ Below B W2.drew w') := Lib.hid (pop_any g B b cap depth (deepA (ptsA (⟨q, .slice lo ln lc, .slice mo q.l.length mcap, qus⟩ :: mt))) count ⟨q, .slice lo ln lc, .slice mo q.l.length mcap, qus⟩ mt W2.drew (HS2.out.mem.below hdr) (HS2.out.box.step hdr) (by omega) (by omega) HDP.out)
      have HS2d : Hid (RdS W2.drew g B depth count (⟨q, .slice lo ln lc, .slice mo q.l.length mcap, qus⟩ :: mt) (.slice (some ⟨b, 0, none⟩) (mt.length + 1) cap)) := Lib.hid (HS2.out.below hdr)
      have HLY2d := Lib.hid (HLY2.out.move (Keeps.of_below hdr))
      have HBX2d : Hid (W2.drew.heap[w.heap.size]? = some (.cells #[.int .i64 uk, .string (mkB ut), .bool un, .slice ulo ur.length ulc, .slice uo ul.length uc0, .int .i64 ua] 27 (0, 0))) := Lib.hid HBX2.out
      have H6 := Lib.hid h6
      clear hwx q9 g9 hdr h6
      have hfw := field_word
      go_wp2_with fail
      go_region_law (first | (go_simp; go_at_call 82; refine HCP.out.mono ?_; rintro e w5 ⟨rfl, hrb5, hk5, hb5⟩; have hs5 := HS2d.out.popped (by show q.w.kind ≠ 0; have := H6.out; omega) hrb5 hk5 hb5; have hx5 := (hk5.2 w.heap.size (by simpa using hsz2) hng).trans HBX2d.out; obtain ⟨m0, m1, m2, m3, m4, m5⟩ := row6 hx5; have hl5 := (HLY2d.out.mono fun _ _ hf => And.intro hf.1.pop hf.2).move (hk5.mono fun _ _ hf => hf.1.1)) | (go_simp; go_at_call 104; refine (abbr_any (fun x => Free g (.slice (some ⟨b, 0, none⟩) mt.length cap) mt x ∧ x ≠ w.heap.size) q.w lo ln lc (.mk uk ut un ur ul ua) [.int .i64 uk, .string (mkB ut), .bool un, .slice ulo ur.length ulc, .slice uo ul.length uc0, .int .i64 ua] _ HWX.out hl5).mono ?_; rintro e w6 ⟨us6, rfl, hly6, hb6⟩; unfold abbA at hly6; have hly7 := hly6; obtain ⟨lv6, av6, vs6, rfl, _, _, _, hr6, _, hrow6, _⟩ := hly6.row; obtain ⟨_, lo6, lc6, rfl, _⟩ := hr6; obtain ⟨_, _, ro6, rc6, rfl, _⟩ := hrow6; have hx6 := (hb6.block w.heap.size (by have := hk5.1; simp at this; omega)).trans hx5; obtain ⟨n0, n1, n2, n3, n4, n5⟩ := row6 hx6; have z0 := frozen_heap hx6 0; have z1 := frozen_heap hx6 1; have z2 := frozen_heap hx6 2; have z3 := frozen_heap hx6 3; have z4 := frozen_heap hx6 4; have z5 := frozen_heap hx6 5))
      all_goals
        have hsz5 : w.heap.size < w5.heap.size := by have := hk5.1; simp at this; omega
        have hlx : LayP (fun x => Free g (.slice (some ⟨b, 0, none⟩) mt.length cap) mt x ∧ x ≠ w.heap.size) w6 _ _ := hly7.mono fun x hx hf => by
          rcases hf with hf | hf
          · exact hf
          · exact ⟨hs5.mem.free_new hs5.box.lt hf, by omega⟩
        obtain ⟨hrow, hkk⟩ := fill6 hx6 (.int .i64 1) (.string (mkB [])) (.bool false) (.slice lo6 0 lc6) (.slice ro6 2 rc6) (.int .i64 (q.w.pl : Nat))
        have HROW := Lib.hid hrow
        have HKK := Lib.hid hkk
        have HLX := Lib.hid hlx
        have HS5 := Lib.hid hs5
        have HB6 := Lib.hid hb6
        have HK5 := Lib.hid hk5
        have HBL5 := Lib.hid hb5
        have HSZ6 := Lib.hid (Nat.lt_of_lt_of_le hsz5 hb6.size)
        clear hrow hkk hlx hly6 hly7 hs5 hx5 hx6 hl5 hrb5 hk5 hb5 hb6 m0 m1 m2 m3 m4 m5 n0 n1 n2 n3 n4 n5 z0 z1 z2 z3 z4 z5 d0 d1 d2 d3 d4 d5 hfw hsz5
        go_wp2_with fail
        generalize World.setCell _ ⟨w.heap.size, 5, none⟩ _ = W9 at *
        go_roundg mt.length
        case measure => omega
        case rel =>
          have hkw : Keeps (fun b => b ≠ g) w W9 := by
            have h1 := HK2.out.trans ((Keeps.refl (fun b => b ≠ g) W2).trans (HK5.out : Keeps (fun b => b ≠ g) W2.drew w5))
            have h2 := h1.trans (Keeps.of_below HB6.out)
            exact ⟨Nat.le_trans h2.1 HKK.out.size, fun x hx hxg => (HKK.out.oth x (Nat.lt_of_lt_of_le hx h2.1) (by omega)).trans (h2.2 x hx hxg)⟩
          have hpop := HM0.out.pop.1
          have hrb9 : RB W9 g depth (deepA (ptsA mt)) count (.slice (some ⟨b, 0, none⟩) mt.length cap) := (HS5.out.box.step HB6.out).keep (Keeps.of_ks (P := fun x => x ≠ w.heap.size) HKK.out (fun h => h rfl)) (by omega)
          refine ⟨mt, .slice (some ⟨b, 0, none⟩) mt.length cap, abbA q.w (.mk uk ut un ur ul ua), _, hpop, hkw, ⟨hpop.keep hkw, hrb9, Nat.le_trans HS5.out.big (Nat.le_trans HB6.out.size HKK.out.size), HS5.out.len, HS5.out.words, HS5.out.dots, HS5.out.wt⟩, ?_, HLX.out.move ((Keeps.of_ks (P := fun x => x ≠ w.heap.size) HKK.out (fun h => h rfl)).mono fun x _ hf => hf.2), HROW.out, ?_, ?_, ?_, ?_, Nat.le_refl _⟩
          · exact HBA.out.tail (by have := H6.out; show q.w.kind ≠ 0; omega)
          · rw [← HADD.out]
            exact (addA_abb (p := q) (ps := ptsA mt) H6.out).symm
          · rw [abbA_sz]
            have h1 := HW.out
            have h2 : wtA (ptsA (⟨q, .slice lo ln lc, .slice mo q.l.length mcap, qus⟩ :: mt)) = ownA q + sumA q.l + wtA (ptsA mt) := rfl
            have h3 : ownA q = 2 := by have := H6.out; simp [ownA, this]
            omega
          · exact ((HBG2.out.trans ((Below.refl B W2).drew.trans HBL5.out)).trans (HB6.out.mono HS5.out.big)).trans (HKK.out.bel.mono (by omega))
          · exact Nat.lt_of_lt_of_le HSZ6.out HKK.out.size
    · have hq6 : (((q.w.kind : Nat) : Int) == 6) = false := by rw [beq_eq_false_iff_ne]; omega
      have H6 := Lib.hid h6
      have hgw2 := HS2.out.box.lt
      have hdeep := HS2.out.deep
      clear h6
      go_wp2_with fail
      refine (top_any g b mt.length cap depth (deepA (ptsA (⟨q, .slice lo ln lc, .slice mo q.l.length mcap, qus⟩ :: mt))) count _ HS2.out.box (by omega) hcap).mono ?_
      rintro e w3 ⟨rfl, nq3, rfl⟩
      have hbq := below_drewN (Below.refl W2.heap.size W2) nq3
      have HS3 := Lib.hid (HS2.out.below hbq)
      have HLY3 := Lib.hid (HLY2.out.move (Keeps.of_below hbq))
      have HBX3 : Hid (DBx (W2.drewN nq3) w.heap.size [.int .i64 uk, .string (mkB ut), .bool un, .slice ulo ur.length ulc, .slice uo ul.length uc0, .int .i64 ua]) := Lib.hid HBX2.out
      have HBG3 := Lib.hid (HBG2.out.trans (hbq.mono HS2.out.big))
      have r0 : (W2.drewN nq3).cell? ⟨b, mt.length * 11, none⟩ = some (.int .i64 (q.w.kind : Nat)) := q0
      have r9 : (W2.drewN nq3).cell? ⟨b, mt.length * 11 + 9, none⟩ = some (.slice mo q.l.length mcap) := q9
      have s9 : (W2.drewN nq3).frozen? ⟨b, mt.length * 11 + 9, none⟩ = false := g9
      have hsz3 : w.heap.size < (W2.drewN nq3).heap.size := hsz2
      have hbw3 : b < (W2.drewN nq3).heap.size := hbw2
      clear hbq q0 q9 g9 HS2 HLY2 HBX2 HBG2 HK2 hsz2 hbw2 hgw2 d0 d1 d2 d3 d4 d5
      generalize W2.drewN nq3 = W3 at *
      obtain ⟨d0, d1, d2, d3, d4, d5⟩ := row6 HBX3.out
      by_cases h5 : q.w.kind = 5
      · have hq5 : (((q.w.kind : Nat) : Int) == 5) = true := by rw [h5]; rfl
        have hdp : dpW q.w ≤ deepA (ptsA (⟨q, .slice lo ln lc, .slice mo q.l.length mcap, qus⟩ :: mt)) := by
          show dpW q.w ≤ deepA (q :: ptsA mt)
          rw [deepA_cons _ _ (by omega)]
          omega
        have H5 := Lib.hid h5
        clear h5
        go_wp2_with fail
        refine (pop_any g B b cap depth (deepA (ptsA (⟨q, .slice lo ln lc, .slice mo q.l.length mcap, qus⟩ :: mt))) count ⟨q, .slice lo ln lc, .slice mo q.l.length mcap, qus⟩ mt W3 HS3.out.mem HS3.out.box (by omega) (by omega) hdp).mono ?_
        rintro e w5 ⟨rfl, hrb5, hk5, hb5⟩
        have HS5 := Lib.hid (HS3.out.popped (by show q.w.kind ≠ 0; have := H5.out; omega) hrb5 hk5 hb5)
        have HB5 := Lib.hid (HBG3.out.trans hb5)
        clear hrb5 hk5 hb5 d0 d1 d2 d3 d4 d5 r0 r9 s9
        go_wp2_with fail
        go_end0
        exact ⟨rfl, mt, _, by rw [← HADD.out]; exact (addA_skip (p := q) (ps := ptsA mt) H5.out).symm, HS5.out, HB5.out⟩
      · have hq5 : (((q.w.kind : Nat) : Int) == 5) = false := by rw [beq_eq_false_iff_ne]; omega
        have H5 := Lib.hid h5
        clear h5
        have hgw3 := HS3.out.box.lt
        go_wp2_with fail
        refine (top_any g b mt.length cap depth (deepA (ptsA (⟨q, .slice lo ln lc, .slice mo q.l.length mcap, qus⟩ :: mt))) count _ HS3.out.box (by omega) hcap).mono ?_
        rintro e w4 ⟨rfl, nq4, rfl⟩
        have hbq := below_drewN (Below.refl W3.heap.size W3) nq4
        have HS4 := Lib.hid (HS3.out.below hbq)
        have HLY4 := Lib.hid (HLY3.out.move (Keeps.of_below hbq))
        have HBX4 : Hid (DBx (W3.drewN nq4) w.heap.size [.int .i64 uk, .string (mkB ut), .bool un, .slice ulo ur.length ulc, .slice uo ul.length uc0, .int .i64 ua]) := Lib.hid HBX3.out
        have HBG4 := Lib.hid (HBG3.out.trans (hbq.mono HS3.out.big))
        have t9 : (W3.drewN nq4).cell? ⟨b, mt.length * 11 + 9, none⟩ = some (.slice mo q.l.length mcap) := r9
        have v9 : (W3.drewN nq4).frozen? ⟨b, mt.length * 11 + 9, none⟩ = false := s9
        have hsz4 : w.heap.size < (W3.drewN nq4).heap.size := hsz3
        have hbw4 : b < (W3.drewN nq4).heap.size := hbw3
        clear hbq r0 r9 s9 HS3 HLY3 HBX3 HBG3 hsz3 hbw3 hgw3 d0 d1 d2 d3 d4 d5
        generalize W3.drewN nq4 = W4 at *
        obtain ⟨d0, d1, d2, d3, d4, d5⟩ := row6 HBX4.out
        have hql : q.l.length ≤ 8192 := by
          have h1 := HS4.out.wt
          have h2 : wtA (ptsA (⟨q, .slice lo ln lc, .slice mo q.l.length mcap, qus⟩ :: mt)) = ownA q + sumA q.l + wtA (ptsA mt) := rfl
          have h3 := sumA_len q.l
          omega
        have hbo := (HS4.out.mem.lists _ List.mem_cons_self)
        have HOW : Hid ((W4.alloc (.cells #[.int .i64 0, .string ⟨#[]⟩, .bool false, .slice none 0 0, .slice none 0 0, .int .i64 0] 27)).ownsRow B 27 6 (.slice mo q.l.length mcap) q.l.length qus) := Lib.hid (hbo.alloc _)
        have hnx := heap_alloc_new W4 (.cells #[.int .i64 0, .string ⟨#[]⟩, .bool false, .slice none 0 0, .slice none 0 0, .int .i64 0] 27)
        have HNW := Lib.hid (World.news_of_block hnx)
        have hbig := HS4.out.big
        have hgB := HS4.out.mem.gB
        clear hbo hnx
        have HBX5 := HBX4
        have hqus : qus.length = q.l.length * 6 := (HS4.out.mem.lists _ List.mem_cons_self).1
        have HZZ : Hid (∀ j, j < 6 → (qus ++ ([.int .i64 0, .string ⟨#[]⟩, .bool false, .slice none 0 0, .slice none 0 0, .int .i64 0] : List Value))[q.l.length * 6 + j]? = ([.int .i64 0, .string ⟨#[]⟩, .bool false, .slice none 0 0, .slice none 0 0, .int .i64 0] : List Value)[j]?) := Lib.hid fun j hj => by
          rw [List.getElem?_append_right (by omega), hqus, show q.l.length * 6 + j - q.l.length * 6 = j by omega]
        have hrowlt := HS4.out.mem.lists _ List.mem_cons_self
        have HLT := Lib.hid hrowlt.lt
        have HOA := Lib.hid (HS4.out.mem.ovA _ List.mem_cons_self b rfl)
        have HNOT : Hid ((Value.slice mo q.l.length mcap).ownBlock ≠ some w.heap.size) := Lib.hid (fun e => by
          have := ((HM0.out.lists _ List.mem_cons_self).lt w.heap.size e).2
          omega)
        clear hrowlt hqus
        have hiq : ((q.l.length : Nat) : Int) < ((q.l.length : Nat) : Int) + 1 := by omega
        clear HS HBS HD HB1 HX1 HBX4
        have HBX4 := HBX5
        go_wp2_with fail
        go_region_law ((refine step_append_lies _ (by rfl) _ _ 25 (by rfl) B 27 i1 _ 6 88 Tryz.underlying25 hi1 hy0 hy1 hy2 rfl (by decide) (.slice mo q.l.length mcap) q.l.length qus (by rfl) HOW.out ⟨W4.heap.size, 0, none⟩ 1 1 [.int .i64 0, .string ⟨#[]⟩, .bool false, .slice none 0 0, .slice none 0 0, .int .i64 0] (by rfl) (by rfl) HNW.out (by intro u hu; simp at hu; rcases hu with rfl | rfl | rfl | rfl | rfl | rfl <;> rfl) (by decide) (by unfold maxLen; omega) (by omega) (by simp; omega) _ rfl ?_; intro g5 cap5 w5 hown5 hgrow5 hat5 hlt5; have hfa := own_facts hown5; have k0 := HZZ.out 0 (by omega); have k1 := HZZ.out 1 (by omega); have k2 := HZZ.out 2 (by omega); have k3 := HZZ.out 3 (by omega); have k4 := HZZ.out 4 (by omega); have k5 := HZZ.out 5 (by omega); have x0 := hfa.1 _ _ k0; have x1 := hfa.1 _ _ k1; have x2 := hfa.1 _ _ k2; have x3 := hfa.1 _ _ k3; have x4 := hfa.1 _ _ k4; have x5 := hfa.1 _ _ k5; simp only [Nat.add_zero] at x0; have f0 := hfa.2 (q.l.length * 6); have f1 := hfa.2 (q.l.length * 6 + 1); have f2 := hfa.2 (q.l.length * 6 + 2); have f3 := hfa.2 (q.l.length * 6 + 3); have f4 := hfa.2 (q.l.length * 6 + 4); have f5 := hfa.2 (q.l.length * 6 + 5); have hdx := (hgrow5.block w.heap.size (by simp; omega) (fun e => HNOT.out e.symm)).trans ((Below.heap_alloc W4 _ _ hsz4).trans HBX4.out); obtain ⟨y0, y1, y2, y3, y4, y5⟩ := row6 hdx; have hbb : w5.heap[b]? = W4.heap[b]? := (hgrow5.block b (by simp; omega) (fun e => HOA.out e.symm)).trans (Below.heap_alloc W4 _ _ hbw4); have u9 := (World.cell?_of_block (w := W4) (a := ⟨b, mt.length * 11 + 9, none⟩) hbb).trans t9; have hne5 : g5 ≠ b := (by rcases hat5 with h | h; exact fun e => HOA.out (by rw [← e]; exact h); exact fun e => by simp at h; omega); have hne6 : b ≠ g5 := fun e => hne5 e.symm; have uf9 := (World.frozen?_of_block (w := W4) (a := ⟨b, mt.length * 11 + 9, none⟩) hbb).trans v9))
        all_goals
          try rw [setCell_comm _ ⟨b, mt.length * 11 + 9, none⟩ _ _ _ hne6, setCell_comm _ ⟨b, mt.length * 11 + 9, none⟩ _ _ _ hne6, setCell_comm _ ⟨b, mt.length * 11 + 9, none⟩ _ _ _ hne6, setCell_comm _ ⟨b, mt.length * 11 + 9, none⟩ _ _ _ hne6, setCell_comm _ ⟨b, mt.length * 11 + 9, none⟩ _ _ _ hne6, setCell_comm _ ⟨b, mt.length * 11 + 9, none⟩ _ _ _ hne6]
          have hgr4 : World.grownBy W4 w5 (Value.slice mo q.l.length mcap).ownBlock := grown_back (w1 := W4.alloc (.cells #[.int .i64 0, .string ⟨#[]⟩, .bool false, .slice none 0 0, .slice none 0 0, .int .i64 0] 27)) ⟨hgrow5.os, hgrow5.tape, hgrow5.output, hgrow5.size, hgrow5.block⟩ (below1 W4 _)
          have hmv4 : MovedTo W4 (.slice mo q.l.length mcap) (.slice (some ⟨g5, 0, none⟩) (q.l.length + 1) cap5) := by
            rcases hat5 with h | h
            · exact .inl h.symm
            · exact .inr ⟨g5, rfl, by simp at h; omega⟩
          have hqus2 : qus.length = q.l.length * 6 := (HS4.out.mem.lists _ List.mem_cons_self).1
          have hown6 := own_put hown5 hqus2 (.int .i64 uk) (.string (mkB ut)) (.bool un) (.slice ulo ur.length ulc) (.slice uo ul.length uc0) (.int .i64 ua)
          have hks6 := keeps6 w5 g5 (q.l.length * 6) (q.l.length * 6 + 1) (q.l.length * 6 + 2) (q.l.length * 6 + 3) (q.l.length * 6 + 4) (q.l.length * 6 + 5) (.int .i64 uk) (.string (mkB ut)) (.bool un) (.slice ulo ur.length ulc) (.slice uo ul.length uc0) (.int .i64 ua)
          have hg5B := (hown5.lt g5 rfl).1
          have HFIN : Hid (World.grownBy W4 w5 (Value.slice mo q.l.length mcap).ownBlock ∧ MovedTo W4 (.slice mo q.l.length mcap) (.slice (some ⟨g5, 0, none⟩) (q.l.length + 1) cap5) ∧ B ≤ g5 ∧ g5 < w5.heap.size) := Lib.hid ⟨hgr4, hmv4, hg5B, hlt5⟩
          have HO6 := Lib.hid hown6
          have HK6 := Lib.hid hks6
          clear hgr4 hmv4 hqus2 hown6 hks6 hg5B hown5 hgrow5 hat5 hlt5 hfa k0 k1 k2 k3 k4 k5 x0 x1 x2 x3 x4 x5 f0 f1 f2 f3 f4 f5 hdx y0 y1 y2 y3 y4 y5 hbb u9 uf9 d0 d1 d2 d3 d4 d5 t9 v9 hi1 hy0 hy1 hy2
          generalize World.setCell _ ⟨g5, q.l.length * 6 + 5, none⟩ _ = W6 at *
          go_wp2_with fail
          go_end0
          obtain ⟨hgr4, hmv4, hg5B, hlt5⟩ := HFIN.out
          have hgr6 : World.grownBy W4 W6 (Value.slice mo q.l.length mcap).ownBlock := ⟨HK6.out.bel.os.trans hgr4.os, HK6.out.bel.tape.trans hgr4.tape, HK6.out.bel.output.trans hgr4.output, Nat.le_trans hgr4.size HK6.out.size, fun x hx hne => (HK6.out.oth x (Nat.lt_of_lt_of_le hx hgr4.size) (fun e => by
            rcases hmv4 with h | ⟨b2, h, hge⟩
            · exact hne (by rw [e, ← h]; rfl)
            · simp [Value.ownBlock] at h; omega)).trans (hgr4.block x hx hne)⟩
          have hmem := HS4.out.mem.snoc (d := .mk uk ut un ur ul ua) (HLY4.out.mono fun _ _ hf => hf.1) HO6.out hgr6 hmv4 HS4.out.box.lt
          have hrb6 : RB W6 g depth (deepA (ptsA (⟨q, .slice lo ln lc, .slice mo q.l.length mcap, qus⟩ :: mt))) count (.slice (some ⟨b, 0, none⟩) (mt.length + 1) cap) := (hgr6.block g HS4.out.box.lt (fun e => HS4.out.mem.sep.2 _ List.mem_cons_self e.symm)).trans HS4.out.box
          have hrb9 := hrb6.keep ((Keeps.refl (fun x => x ≠ b) W6).set (p := ⟨b, mt.length * 11 + 9, none⟩) (fun h => h rfl) (.slice (some ⟨g5, 0, none⟩) (q.l.length + 1) cap5)) (fun e => HS4.out.mem.sep.1 (by rw [e]; rfl))
          refine ⟨rfl, _, _, ?_, ⟨hmem, ?_, ?_, HS4.out.len, ?_, ?_, ?_⟩, ?_⟩
          · rw [← HADD.out]
            exact (addA_put (p := q) (ps := ptsA mt) H6.out H5.out).symm
          · have e : deepA (ptsA (⟨q, .slice lo ln lc, .slice mo q.l.length mcap, qus⟩ :: mt)) = deepA ({ q with l := q.l ++ [.mk uk ut un ur ul ua] } :: ptsA mt) := (deepA_same (ptsA mt) rfl).symm
            rw [e] at hrb9
            exact hrb9
          · simp only [World.size_setCell]
            exact Nat.le_trans HS4.out.big hgr6.size
          · intro x hx
            rcases List.mem_cons.1 hx with rfl | hx
            · show WdOk q.w
              exact HS4.out.words ⟨q, .slice lo ln lc, .slice mo q.l.length mcap, qus⟩ List.mem_cons_self
            · exact HS4.out.words x (List.mem_cons_of_mem _ hx)
          · intro x hx
            rcases List.mem_cons.1 hx with rfl | hx
            · have := HS4.out.dots ⟨q, .slice lo ln lc, .slice mo q.l.length mcap, qus⟩ List.mem_cons_self
              simp only [List.length_append]
              exact Nat.le_trans this (Nat.le_add_right _ _)
            · exact HS4.out.dots x (List.mem_cons_of_mem _ hx)
          · have h1 := HW.out
            have h2 : wtA (ptsA (⟨q, .slice lo ln lc, .slice mo q.l.length mcap, qus⟩ :: mt)) = ownA q + sumA q.l + wtA (ptsA mt) := rfl
            show ownA { q with l := q.l ++ [.mk uk ut un ur ul ua] } + sumA (q.l ++ [.mk uk ut un ur ul ua]) + wtA (ptsA mt) ≤ 8192
            have h3 : ownA { q with l := q.l ++ [.mk uk ut un ur ul ua] } = ownA q := rfl
            rw [sumA_app, sumA_one]
            omega
          · exact ((HBG4.out.grown hgr6 HS4.out.big (fun x hx => (HLT.out x hx).1))).setCell (by show B ≤ b; omega) _
end Go.Proofs.YtpahfhjgcflifaaGreatDoor
