/- The list of objects: Symbol. -/
import Derived.Test.YtioidaojnbenbaaRsName
import Derived.Test.YtioidaojnbenbaaStSym
namespace Go.Proofs.Ytioidaojnbenbaa
open Go.RowKit

/-- A name more. -/
theorem RsM.name {w w' w2 : World} {g : Nat} {Q : Nat → Nat} {s : St} {ms : List RO} {ov nv : Value} (h : RsM w g Q s ms ov nv) {t : ByteArray} (ht : t ∉ s.ns) (hl : s.ns.length < 1000000)
    {nv' : Value} (ho : w'.ownsRow 0 9 1 nv' (s.ns.length + 1) (s.ns.map Value.string ++ [.string t])) (hg : w.grownBy w' nv.ownBlock) (hm : MovedTo w nv nv')
    (hw2 : w2.heap[g]? = some (.cells #[.int .i64 (s.L : Nat), .int .i64 (s.U : Nat), ov, nv'] 32 (0, 0))) (hk2 : Keeps (fun x => x ≠ g) w' w2) :
    ∃ Q', RsM w2 g Q' (s.intern t) ms ov nv' ∧ (∀ x, Q x ≠ 0 → Q' x = Q x) ∧ ∀ x, Q' x ≠ 0 → Q x ≠ 0 ∨ w.heap.size ≤ x := by
  have hgQ := h.gQ
  have hnv : ∀ x, nv'.ownBlock = some x → Q x = 3 ∨ w.heap.size ≤ x := fun x hx => by
    rcases hm with e | ⟨b2, e, hge⟩
    · exact .inl (h.nQ x (e ▸ hx))
    · rw [e] at hx; injection hx with hx; exact .inr (by omega)
  have hk1 : Keeps (fun x => Q x ≠ 3) w w' := Keeps.of_grown hg fun x hx hn => hn (h.nQ x hx)
  have hk : Keeps (fun x => Q x ≠ 3 ∧ Q x ≠ 1) w w2 := (hk1.mono fun _ _ h => h.1).trans (hk2.mono fun x _ h => fun e => h.2 (by rw [e]; exact hgQ))
  have hsz : w.heap.size ≤ w2.heap.size := hk.1
  have hold : ∀ x, Q x ≠ 0 → (if Q x ≠ 0 then Q x else if nv'.ownBlock = some x then 3 else 0) = Q x := fun x hx => if_pos hx
  refine ⟨fun x => if Q x ≠ 0 then Q x else if nv'.ownBlock = some x then 3 else 0, ⟨⟨h.ok.UL, h.ok.LM, h.ok.sum, h.ok.cpos, fun o ho' v hv => ?_, ?_, ?_⟩, h.eqs, fun x hx => ?_, ?_, hw2, ?_, fun x hx => ?_, fun i hi => ?_, fun i hi x hx => ?_, ?_, fun x hx => ?_⟩, hold, fun x hx => ?_⟩
  · have hv' := h.ok.snd o ho' v hv
    show sdV s.os.length (s.ns ++ [t]).length v = true
    by_cases h6 : v.1 = 6
    · rw [sdV_sym h6] at hv' ⊢
      simp only [decide_eq_true_iff] at hv' ⊢
      rw [List.length_append, List.length_singleton]
      omega
    · unfold sdV at hv' ⊢
      simpa [h6] using hv'
  · show (s.ns ++ [t]).Nodup
    rw [List.nodup_append]
    exact ⟨h.ok.nd, by simp, fun a ha c hc => by rw [List.mem_singleton.1 hc]; intro e; exact ht (e ▸ ha)⟩
  · show (s.ns ++ [t]).length ≤ 1000000
    simp; omega
  · by_cases h0 : Q x ≠ 0
    · exact Nat.lt_of_lt_of_le (h.lt x h0) hsz
    · simp only [if_neg h0] at hx
      by_cases h3 : nv'.ownBlock = some x
      · exact Nat.lt_of_lt_of_le (ho.lt x h3).2 hk2.1
      · simp [h3] at hx
  · rw [hold g (by omega)]; exact hgQ
  · exact ownsRow_keep h.orow hk fun x hx => by have := h.oQ x hx; omega
  · have := h.oQ x hx
    rw [hold x (by omega)]; exact this
  · exact ownsRow_keep (h.srow i hi) hk fun x hx => by have := h.sQ i hi x hx; omega
  · have := h.sQ i hi x hx
    rw [hold x (by omega)]; exact this
  · show World.ownsRow w2 0 _ 1 nv' (s.ns ++ [t]).length ((s.ns ++ [t]).map Value.string)
    rw [List.length_append, List.map_append]
    refine ownsRow_keep ho hk2 fun x hx => ?_
    rcases hnv x hx with e | e
    · exact fun h1 => by rw [h1] at e; omega
    · have h1 := h.lt g (by omega); omega
  · rcases hnv x hx with e | e
    · rw [hold x (by omega)]; exact e
    · have h0 : Q x = 0 := Classical.byContradiction fun hn => by have := h.lt x hn; omega
      simp [h0, hx]
  · by_cases h0 : Q x ≠ 0
    · exact .inl h0
    · simp only [if_neg h0] at hx
      by_cases h3 : nv'.ownBlock = some x
      · rcases hnv x h3 with e | e
        · exact .inl (by omega)
        · exact .inr e
      · simp [h3] at hx

set_option maxRecDepth 100000 in
set_option maxHeartbeats 8000000 in
theorem rsymbol_q (g : Nat) (Q : Nat → Nat) (s : St) (t : ByteArray) (w : World) (P : Ending → World → Prop) (h : RsW w g Q s) (hn : s.ns.length < 1000000)
    (hP : ∀ r s' w', SymR s t r s' → RsP w g Q s' w' → P (.returned (.tuple #[.agg #[.int .i64 r.1.1, .int .i64 r.1.2], .int .i64 r.2])) w') :
    Calls Try.prog 32 #[.pointer (some ⟨g, 0, none⟩), .string t] w P := by
  obtain ⟨i0, hi, hz0, hz1, hz2⟩ := info_parts infoStr
  have HI := Lib.hid (And.intro hi (And.intro hz0 (And.intro hz1 hz2)))
  clear hi hz0 hz1 hz2
  have HS := Lib.hid h
  have HP := Lib.hid hP
  have HN := Lib.hid hn
  have HB1 := Lib.hid (below1 w (.cells #[.int .i64 0, .int .i64 0] 35))
  have HN1 := Lib.hid (box1 w #[.int .i64 0, .int .i64 0] 35)
  clear hP h hn
  by_cases hbad : t.size < 1 ∨ 64 < t.size
  · have HR : Hid (SymR s t ((0, 0), 1) s) := Lib.hid (.inl ⟨by omega, rfl, rfl⟩)
    have hx : ((t.size : Nat) : Int) < 1 ∨ (¬ ((t.size : Nat) : Int) < 1 ∧ 64 < ((t.size : Nat) : Int)) := by omega
    clear hbad
    obtain ⟨p0, p1, z0, z1⟩ := row2 HN1.out
    rcases hx with hx | ⟨hx, hy⟩
    all_goals
      go_enter Try.func32, Try.ntmps32
      go_wp2_with fail
      refine bodyPost_ret (v := .tuple #[vV (0, 0), .int .i64 1]) (by simp [results, Try.results32, go_sem, vV, p0, p1]) rfl (HP.out _ _ _ HR.out (RsP.of_below HS.out HB1.out))
  · have HG := Lib.hid (show 1 ≤ t.size ∧ t.size ≤ 64 by omega)
    have h1 : ¬ ((t.size : Nat) : Int) < 1 := by omega
    have h2 : ¬ (64 : Int) < ((t.size : Nat) : Int) := by omega
    clear hbad
    obtain ⟨ms, ov, nv, hm⟩ := HS.out
    obtain ⟨no, nc, rfl⟩ := own_dslice hm.nrow
    have HM := Lib.hid hm
    clear hm
    obtain ⟨n, hn⟩ : ∃ n, n = s.ns.length := ⟨_, rfl⟩
    rw [← hn] at HM
    have HNN := Lib.hid hn
    have hnb : ((n : Nat) : Int) < 1000000 := by have := HN.out; omega
    clear hn
    go_enter Try.func32, Try.ntmps32
    go_upto_region 3 with fail
    generalize w.alloc (.cells #[.int .i64 0, .int .i64 0] 35) = w1 at *
    clear h1 h2
    go_wp2_with fail
    go_loopw [6] (fun v wr => ∃ i : Nat, i ≤ n ∧ v = .int .i64 (i : Nat) ∧ Below w1.heap.size w1 wr ∧ ∀ j, j < i → s.ns[j]? ≠ some t) (fun v _ => n - (intOf v).toNat)
    case atStart => exact ⟨0, Nat.zero_le _, rfl, Below.refl _ _, fun j hj => absurd hj (Nat.not_lt_zero _)⟩
    case round =>
      obtain ⟨i, hi, rfl, hbr, hno⟩ := hrel
      have HBR := Lib.hid hbr
      have HNO := Lib.hid hno
      clear hbr hno
      have HMR := Lib.hid (HM.out.below (HB1.out.trans (HBR.out.mono HB1.out.size)))
      have HNR := Lib.hid ((HBR.out.block _ (Array.getElem?_eq_some_iff.1 HN1.out).1).trans HN1.out)
      obtain ⟨⟨_, _, _, c3⟩, _, _, f3⟩ := HMR.out.boxf
      by_cases hlt : i < n
      · have hii : ((i : Nat) : Int) < ((n : Nat) : Int) := by omega
        have hin : i < s.ns.length := by rw [← HNN.out]; exact hlt
        obtain ⟨nb, nf, nc2, e1, _, d0⟩ := row_name (by rw [HNN.out]; exact RowV.of_own HMR.out.nrow) HNN.out hin
        injection e1 with e11 _ e13
        subst e11 e13
        have HIN := Lib.hid (List.getElem?_eq_getElem hin)
        have HJ := Lib.hid (show s.ns[i]'hin = t → SymR s t ((6, ((i : Nat) : Int)), 0) s from fun e => .inr ⟨HG.out, i, hin, rfl, e, .inl rfl⟩)
        generalize s.ns[i]'hin = u at *
        clear hin f3
        by_cases hut : u = t
        · subst hut
          obtain ⟨p0, p1, z0, z1⟩ := row2 HNR.out
          go_wp2_with fail
          refine bodyPost_ret (v := .tuple #[vV (6, ((i : Nat) : Int)), .int .i64 0]) (by simp [results, Try.results32, go_sem, vV, p0, p1]) rfl (HP.out ((6, ((i : Nat) : Int)), 0) s _ (HJ.out (by simp)) (RsP.of_below HS.out ?_))
          exact ((HB1.out.trans (HBR.out.mono HB1.out.size)).setCell (Nat.le_refl _) _).setCell (Nat.le_refl _) _
        · have hs1 : ¬ u.toList = t.toList := fun e => hut (by rw [ByteArray.toList_eq, ByteArray.toList_eq] at e; exact Go.WideShapes.bytes_inj e)
          have hs2 : (u.toList == t.toList) = false := by rw [beq_eq_false_iff_ne]; exact hs1
          have HUT := Lib.hid hut
          clear hut
          go_wp2_with fail
          go_roundw
          case measure => simp only [intOf]; omega
          case rel => exact ⟨i + 1, by omega, by go_num, HBR.out, fun j hj => by
            rcases Nat.lt_or_ge j i with h | h
            · exact HNO.out j h
            · obtain rfl : j = i := by omega
              rw [HIN.out]; intro h; injection h with h; exact HUT.out h⟩
      · have hge : ¬ ((i : Nat) : Int) < ((n : Nat) : Int) := by omega
        have HNI := Lib.hid (show t ∉ s.ns from fun hmem => by
          obtain ⟨j, hj⟩ := List.mem_iff_getElem?.1 hmem
          have hjl := (List.getElem?_eq_some_iff.1 hj).1
          exact HNO.out j (by have := HNN.out; omega) hj)
        have hnE := HNN.out
        subst hnE
        have hgl := HMR.out.glt
        have hb2 := below1 wr (.cells #[.string t] 9)
        have HM2 := Lib.hid (HMR.out.below hb2)
        have HNW := Lib.hid (srow1 wr t)
        have HN3 := Lib.hid HM2.out.nrow
        have hnn := HN.out
        go_upto_region 9 with (at_builtin; go_loud (refine wpList_append_row _ rfl _ _ 30 rfl 0 9 i0 _ 1 16 Try.underlying30 HI.out.1 HI.out.2.1 HI.out.2.2.1 HI.out.2.2.2 rfl (by decide) (.slice no s.ns.length nc) s.ns.length (s.ns.map Value.string) rfl HN3.out _ 1 [.string t] rfl HNW.out (by intro u hu; simp at hu; subst hu; rfl) (by unfold maxLen; omega) (by omega) (Nat.zero_le _) ?_); go_loud (intro v' w2 hown2 hgrow2 hmv2; obtain ⟨no2, nc2, hv2⟩ := own_dslice hown2; subst hv2; have hbx2 := (hgrow2.block g (by simp; omega) (fun e => by have := HMR.out.nQ g e.symm; have := HMR.out.gQ; omega)).trans HM2.out.box; obtain ⟨y3, z3⟩ : w2.cell? ⟨g, 3, none⟩ = some (.slice no s.ns.length nc) ∧ w2.frozen? ⟨g, 3, none⟩ = false := ⟨cell_heap hbx2 3, frozen_heap hbx2 3⟩))
        have hgQ := HMR.out.gQ
        have hbx3 : (w2.setCell ⟨g, 3, none⟩ (.slice no2 (s.ns.length + 1) nc2)).heap[g]? = some (.cells #[.int .i64 (s.L : Nat), .int .i64 (s.U : Nat), ov, .slice no2 (s.ns.length + 1) nc2] 32 (0, 0)) := rowSet hbx2 3 _
        have HF3 := Lib.hid (((Fr.of_below (R := Q) hb2).grown hgrow2 (fun k hk => .inr (by rw [HMR.out.nQ k hk]; omega))).set (p := ⟨g, 3, none⟩) (.inr (by show Q g ≠ 0; omega)) (.slice no2 (s.ns.length + 1) nc2))
        have HK3 := Lib.hid ((Keeps.refl (fun x => x ≠ g) w2).set (p := ⟨g, 3, none⟩) (fun h => h rfl) (.slice no2 (s.ns.length + 1) nc2))
        obtain ⟨Q', hst, hq1, hq2⟩ := RsM.name HM2.out HNI.out hnn hown2 hgrow2 hmv2 hbx3 HK3.out
        clear hown2 hgrow2 hmv2 hbx2 y3 z3 c3 f3
        generalize w2.setCell ⟨g, 3, none⟩ (.slice no2 (s.ns.length + 1) nc2) = w3 at *
        have y3 : w3.cell? ⟨g, 3, none⟩ = some (.slice no2 (s.ns.length + 1) nc2) := cell_heap hbx3 3
        have hQ0 : Q w.heap.size = 0 := Classical.byContradiction fun hn0 => by have := HS.out.lt _ hn0; omega
        have hxl := (Array.getElem?_eq_some_iff.1 HNR.out).1
        have hX3 := (HF3.out.blk w.heap.size hxl hQ0).trans HNR.out
        have HQ0' : Hid (Q' w.heap.size = 0) := Lib.hid (Classical.byContradiction fun hn0 => by
          rcases hq2 _ hn0 with h | h
          · exact h hQ0
          · simp at h; omega)
        have HST := Lib.hid hst
        have HFR := Lib.hid ((Fr.of_below (R := Q) (HB1.out.trans (HBR.out.mono HB1.out.size))).tr HF3.out)
        have HQQ : Hid (∀ b, b < w.heap.size → (Q' b = 0 ↔ Q b = 0)) := Lib.hid fun b hb => ⟨fun h0 => Classical.byContradiction fun hn0 => by rw [hq1 b hn0] at h0; exact hn0 h0, fun h0 => Classical.byContradiction fun hn0 => by
          rcases hq2 b hn0 with h | h
          · exact h h0
          · simp at h; omega⟩
        obtain ⟨p0, p1, z0, z1⟩ := row2 hX3
        clear hst hq1 hq2 hX3 hbx3 hb2
        go_wp2_with fail
        refine bodyPost_ret (v := .tuple #[vV (6, ((s.ns.length : Nat) : Int)), .int .i64 0]) (by simp [results, Try.results32, go_sem, vV, p0, p1]) rfl (HP.out ((6, ((s.ns.length : Nat) : Int)), 0) (s.intern t) _ (.inr ⟨HG.out, s.ns.length, by simp [St.intern], rfl, by simp [St.intern], .inr rfl⟩) ⟨Q', ⟨_, _, _, HST.out.keep (((Keeps.refl (fun b => Q' b ≠ 0) _).set (p := ⟨w.heap.size, 0, none⟩) (fun h => h HQ0'.out) _).set (p := ⟨w.heap.size, 1, none⟩) (fun h => h HQ0'.out) _)⟩, (HFR.out.set (p := ⟨w.heap.size, 0, none⟩) (.inl (Nat.le_refl _)) _).set (p := ⟨w.heap.size, 1, none⟩) (.inl (Nat.le_refl _)) _, HQQ.out⟩)
theorem rsymbol_any (g : Nat) (Q : Nat → Nat) (s : St) (t : ByteArray) (w : World) (h : RsW w g Q s) (hn : s.ns.length < 1000000) :
    Calls Try.prog 32 #[.pointer (some ⟨g, 0, none⟩), .string t] w fun e w' => ∃ r s', e = .returned (.tuple #[.agg #[.int .i64 r.1.1, .int .i64 r.1.2], .int .i64 r.2]) ∧ SymR s t r s' ∧ RsP w g Q s' w' :=
  rsymbol_q g Q s t w _ h hn fun r s' _ h1 h2 => ⟨r, s', rfl, h1, h2⟩
end Go.Proofs.Ytioidaojnbenbaa
