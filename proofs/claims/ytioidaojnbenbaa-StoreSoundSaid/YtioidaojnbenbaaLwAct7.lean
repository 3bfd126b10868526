/- law06's act: Collect. -/
import Derived.Test.YtioidaojnbenbaaLwAct2
namespace Go.Proofs.Ytioidaojnbenbaa
open Go.RowKit

/-- The last so many objects, the newest first. -/
def lastA (n j : Nat) : List (Int × Int) := (List.range j).map fun t => ((7 : Int), (((n : Nat) : Int) - 1) - ((t : Nat) : Int))
theorem lastA_len (n j : Nat) : (lastA n j).length = j := by simp [lastA]
theorem lastA_succ (n j : Nat) : lastA n (j + 1) = lastA n j ++ [((7 : Int), (((n : Nat) : Int) - 1) - ((j : Nat) : Int))] := by simp [lastA, List.range_succ]
def ktrack (κ : Nat → Option Obj) (w : World) (v : Value) : Nat → Option Obj := fun b => if v.ownBlock = some b then w.heap[b]? else κ b
section
variable {w0 w w' : World} {gs gm : Nat} {s t : St} {κ : Nat → Option Obj} {v v' : Value}
theorem ktrack_self {b : Nat} (h : v.ownBlock = some b) : ktrack κ w v b = w.heap[b]? := by simp [ktrack, h]
theorem ktrack_old {b : Nat} {o : Obj} (h : κ b = some o) (hk : ∀ b, v.ownBlock = some b → κ b = none) : ktrack κ w v b = some o := by
  unfold ktrack
  by_cases e : v.ownBlock = some b
  · rw [hk b e] at h; cases h
  · rw [if_neg e]; exact h
theorem TwoX.track (h : TwoX w0 w gs gm s t κ) (hb : Below w.heap.size w w') (hv : ∀ b, v.ownBlock = some b → w.heap.size ≤ b ∧ b < w'.heap.size) : TwoX w0 w' gs gm s t (ktrack κ w' v) ∧ ∀ b, v.ownBlock = some b → κ b = none := by
  have hno : ∀ b, v.ownBlock = some b → κ b = none := fun b e => by
    cases hk : κ b with
    | none => rfl
    | some o => exact absurd (hv b e).1 (fun h1 => h.new hk h1)
  refine ⟨?_, hno⟩
  cases hvb : v.ownBlock with
  | none =>
    refine (h.below hb).sub fun b o hk => ?_
    unfold ktrack at hk
    rw [hvb] at hk
    simpa using hk
  | some b =>
    obtain ⟨h1, h2⟩ := hv b hvb
    refine (h.grow hb h1 (Array.getElem?_eq_getElem h2)).sub fun b' o hk => ?_
    unfold ktrack at hk
    by_cases e : b' = b
    · subst e
      rw [if_pos hvb] at hk
      rw [kadd_self, ← hk, Array.getElem?_eq_getElem h2]
    · rw [if_neg (by rw [hvb]; intro e2; injection e2 with e2; exact e e2.symm)] at hk
      rw [kadd_ne e]; exact hk
/-- The row grows. -/
theorem TwoX.rowed (h : TwoX w0 w gs gm s t (ktrack κ w v)) (hk : ∀ b, v.ownBlock = some b → κ b = none) (hvl : ∀ b, v.ownBlock = some b → b < w.heap.size) (hg : w.grownBy w' v.ownBlock) (hm : MovedTo w v v') (hl : ∀ b, v'.ownBlock = some b → b < w'.heap.size) : TwoX w0 w' gs gm s t (ktrack κ w' v') ∧ ∀ b, v'.ownBlock = some b → κ b = none := by
  have hkn : ∀ b o, κ b = some o → v.ownBlock ≠ some b := fun b o h1 e => by rw [hk b e] at h1; cases h1
  have hno : ∀ b, v'.ownBlock = some b → κ b = none := fun b e => by
    rcases hm with hm | ⟨b2, hm, hge⟩
    · exact hk b (hm ▸ e)
    · rw [hm] at e
      injection e with e
      subst e
      cases hkb : κ b2 with
      | none => rfl
      | some o => exact absurd hge fun h1 => h.new (ktrack_old hkb hk) h1
  refine ⟨?_, hno⟩
  obtain ⟨R, Q, h1, h2⟩ := h
  have hkp : Keeps (fun b => v.ownBlock ≠ some b) w w' := Keeps.of_grown hg fun b e hn => hn e
  have hv0 : ∀ b, v.ownBlock = some b → R b = 0 ∧ Q b = 0 ∧ w0.heap.size ≤ b := fun b e => (h2 b _ ((ktrack_self e).trans (Array.getElem?_eq_getElem (hvl b e)))).2
  refine ⟨R, Q, ⟨⟨h1.st.st.keep (hkp.mono fun b _ hr e => hr (hv0 b e).1), h1.st.bel.grown hg h1.st.bel.size (fun q hq => (hv0 q hq).2.2), h1.st.lo⟩, h1.rs.keep (hkp.mono fun b _ hr e => hr (hv0 b e).2.1), h1.dj, h1.lo⟩, fun b o hko => ?_⟩
  unfold ktrack at hko
  by_cases e : v'.ownBlock = some b
  · rw [if_pos e] at hko
    refine ⟨hko, ?_⟩
    rcases hm with hm | ⟨b2, hm, hge⟩
    · exact hv0 b (hm ▸ e)
    · rw [hm] at e
      injection e with e
      subst e
      exact ⟨h1.st.new_zero hge, Classical.byContradiction fun hn => by have := h1.rs.lt _ hn; omega, Nat.le_trans h1.st.bel.size hge⟩
  · rw [if_neg e] at hko
    have h3 := h2 b o (ktrack_old hko hk)
    exact ⟨(hkp.2 b (Array.getElem?_eq_some_iff.1 h3.1).1 (hkn b o hko)).trans h3.1, h3.2⟩
/-- What Collect of the store leaves, with a row that is new. -/
theorem TwoX.scol (h : TwoX w0 w gs gm s t κ) : ∃ R, StW w gs R s ∧ (∀ b o, κ b = some o → R b = 0) ∧ ∀ s' w' R', StW w' gs R' s' → Fr R w w' → (∀ b, R' b = 0 ↔ R b = 0) → ∀ v : Value, (∀ b, v.ownBlock = some b → w.heap.size ≤ b ∧ b < w'.heap.size) → TwoX w0 w' gs gm s' t (ktrack κ w' v) ∧ ∀ b, v.ownBlock = some b → κ b = none := by
  have hno : ∀ b, w.heap.size ≤ b → κ b = none := fun b e => by
    cases hk : κ b with
    | none => rfl
    | some o => exact absurd e (fun h1 => h.new hk h1)
  obtain ⟨R, Q, h1, h2⟩ := h
  refine ⟨R, h1.st.st, fun b o hk => (h2 b o hk).2.1, fun s' w' R' hst hfr hiff v hv => ⟨?_, fun b e => hno b (hv b e).1⟩⟩
  have hlt : ∀ b o, κ b = some o → b < w.heap.size := fun b o hk => (Array.getElem?_eq_some_iff.1 (h2 b o hk).1).1
  have k1 : StQ w0 w' gs R' s' := ⟨hst, h1.st.bel.trans (hfr.below h1.st.bel.size h1.st.lo), fun b hb => h1.st.lo b fun h0 => hb ((hiff b).2 h0)⟩
  refine ⟨R', Q, ⟨k1, h1.rs.keep (hfr.keeps.mono fun b _ hq => h1.dj b hq), fun b hq => (hiff b).2 (h1.dj b hq), h1.lo⟩, fun b o hko => ?_⟩
  unfold ktrack at hko
  by_cases e : v.ownBlock = some b
  · rw [if_pos e] at hko
    obtain ⟨hge, _⟩ := hv b e
    exact ⟨hko, (hiff b).2 (h1.st.new_zero hge), Classical.byContradiction fun hn => by have := h1.rs.lt _ hn; omega, Nat.le_trans h1.st.bel.size hge⟩
  · rw [if_neg e] at hko
    exact ⟨(hfr.blk b (hlt b o hko) (h2 b o hko).2.1).trans (h2 b o hko).1, (hiff b).2 (h2 b o hko).2.1, (h2 b o hko).2.2⟩
end
theorem ktrack_below {w w' : World} {κ : Nat → Option Obj} {v : Value} (hb : Below w.heap.size w w') (hl : ∀ b, v.ownBlock = some b → b < w.heap.size) : ktrack κ w' v = ktrack κ w v := by
  funext b
  unfold ktrack
  by_cases e : v.ownBlock = some b
  · rw [if_pos e, if_pos e]; exact hb.block b (hl b e)
  · rw [if_neg e, if_neg e]
theorem rowv_nil (w : World) : RowV w (.slice none 0 0) 0 2 (vcs []) := ⟨rfl, Nat.zero_le _, none, 0, rfl, Nat.le_refl _, .inl ⟨rfl, fun _ => rfl⟩⟩
/-- A row stays with its block. -/
theorem row_track {w W : World} {κ : Nat → Option Obj} {v : Value} {n size : Nat} {us : List Value} (h : RowV w v n size us) (hb : ∀ b o, ktrack κ w v b = some o → W.heap[b]? = some o) : RowV W v n size us := by
  rcases h.boxed with ⟨_, hW⟩ | ⟨b, o, hv, ho, hW⟩
  · exact hW W
  · exact hW W (hb b o ((ktrack_self hv).trans ho))


set_option maxRecDepth 100000 in
set_option maxHeartbeats 8000000 in
theorem act7_any (w0 w : World) (gs gm : Nat) (s : St) (n : Nat) (κ : Nat → Option Obj) (d k i : Int) (sv : Value) (l : List (Int × Int)) (v x : Int × Int) (t : ByteArray) (h : TwoX w0 w gs gm s s κ) (hg : Gd s n) (hn : n < 1000) (hr : RowV w0 sv l.length 2 (vcs l)) (hl : l.length ≤ 100) (ht : t.size ≤ 140737488355328) (hd : d = 7) :
    Calls Try.prog 9 #[.pointer (some ⟨gs, 0, none⟩), .pointer (some ⟨gm, 0, none⟩), .agg #[.int .i64 d, .int .i64 k, .int .i64 i, sv, .int .i64 v.1, .int .i64 v.2, .int .i64 x.1, .int .i64 x.2, .string t]] w fun e w' => e = .returned (.bool true) ∧ ∃ s', TwoX w0 w' gs gm s' s' κ ∧ Gd s' (n + 1) := by
  subst hd
  obtain ⟨so, sc, rfl⟩ := rowv_slice hr
  obtain ⟨v0, v1⟩ := v
  obtain ⟨x0, x1⟩ := x
  simp only
  have HG := Lib.hid hg
  have HR := Lib.hid hr
  have HLT := Lib.hid (And.intro hn (And.intro hl ht))
  have HSUB : Hid (∀ b o, κ b = some o → b ≠ w.heap.size) := Lib.hid fun b o hk e => h.new hk (by omega)
  have HA := Lib.hid (h.alloc (.cells #[.int .i64 7, .int .i64 k, .int .i64 i, .slice so l.length sc, .int .i64 v0, .int .i64 v1, .int .i64 x0, .int .i64 x1, .string t] 37))
  have HK0 : Hid (kadd κ w.heap.size (.cells #[.int .i64 7, .int .i64 k, .int .i64 i, .slice so l.length sc, .int .i64 v0, .int .i64 v1, .int .i64 x0, .int .i64 x1, .string t] 37) w.heap.size = some (.cells #[.int .i64 7, .int .i64 k, .int .i64 i, .slice so l.length sc, .int .i64 v0, .int .i64 v1, .int .i64 x0, .int .i64 x1, .string t] 37)) := Lib.hid kadd_self
  clear h hg hr hl ht hn
  go_enter Try.func9, Try.ntmps9
  go_upto_region 1 with fail
  generalize w.alloc (.cells #[.int .i64 7, .int .i64 k, .int .i64 i, .slice so l.length sc, .int .i64 v0, .int .i64 v1, .int .i64 x0, .int .i64 x1, .string t] 37) = w1 at *
  generalize hab : w.heap.size = ab at *
  clear hab
  obtain ⟨a0, a1, a2, a3, a4, a5, a6, a7, a8⟩ := row9 (HA.out.at HK0.out)
  clear a0 a1 a2 a3 a4 a5 a6 a7 a8
  obtain ⟨Nn, hNn⟩ : ∃ N, N = s.os.length := ⟨_, rfl⟩
  have HNN := Lib.hid hNn
  have hNl : Nn ≤ 1048576 := by
    obtain ⟨R, hst, _⟩ := HA.out.sstep
    obtain ⟨_, _, _, _, h2⟩ := hst
    rw [hNn]; exact h2.ok.len
  clear hNn
  have HOBJ : Hid (∀ W κ', TwoX w0 W gs gm s s κ' → ∃ oo oc, W.cell? ⟨gm, 2, none⟩ = some (.slice oo Nn oc)) := Lib.hid fun W κ' hT => by
    obtain ⟨Q, hst, _⟩ := hT.rstep
    obtain ⟨ms, ov, nv, hm⟩ := hst
    obtain ⟨oo, oc, rfl⟩ := own_dslice hm.orow
    refine ⟨oo, oc, ?_⟩
    have := hm.boxf.1.2.2.1
    rw [this, HNN.out, hm.len]
  obtain ⟨a0, a1, a2, a3, a4, a5, a6, a7, a8⟩ := row9 (HA.out.at HK0.out)
  go_wp2_with fail
  refine (vown_any _ l _ (HR.out.below HA.out.bel) (by have := HLT.out.2.1; omega)).mono ?_
  rintro e w2 ⟨rv, rfl, hown, hb2⟩
  have ht2 := HA.out.track (v := rv) hb2 fun b hb => hown.lt b hb
  have HT2 := Lib.hid ht2.1
  have HN2 := Lib.hid ht2.2
  have HO2 : Hid (w2.ownsRow w0.heap.size 35 2 rv l.length (vcs l)) := Lib.hid ⟨hown.1, hown.2.imp id fun ⟨a, c, cu, e, h1, h⟩ => ⟨a, c, cu, e, Nat.le_trans HA.out.bel.size h1, h⟩⟩
  clear hown hb2 ht2 a0 a1 a2 a3 a4 a5 a6 a7 a8 HA
  go_wp2_with fail
  go_loopw [27, 28] (fun c v wr => ∃ j : Nat, j ≤ Nn ∧ v = .int .i64 (j : Nat) ∧ TwoX w0 wr gs gm s s (ktrack (kadd κ ab (.cells #[.int .i64 7, .int .i64 k, .int .i64 i, .slice so l.length sc, .int .i64 v0, .int .i64 v1, .int .i64 x0, .int .i64 x1, .string t] 37)) wr c) ∧ (∀ b, c.ownBlock = some b → kadd κ ab (.cells #[.int .i64 7, .int .i64 k, .int .i64 i, .slice so l.length sc, .int .i64 v0, .int .i64 v1, .int .i64 x0, .int .i64 x1, .string t] 37) b = none) ∧ wr.ownsRow w0.heap.size 35 2 c (l.length + j) (vcs (l ++ lastA Nn j))) (fun _ v _ => Nn - (intOf v).toNat)
  case atStart => exact ⟨0, Nat.zero_le _, rfl, HT2.out, HN2.out, by simpa [lastA] using HO2.out⟩
  case round =>
    obtain ⟨j, hj, rfl, hT, hno, hown⟩ := hrel
    have HT := Lib.hid hT
    have HNO := Lib.hid hno
    have HOW := Lib.hid hown
    have HK1 := Lib.hid (ktrack_old (w := wr) HK0.out hno)
    obtain ⟨ro, rc, rfl⟩ := own_dslice hown
    clear hT hno hown HT2 HN2 HO2
    obtain ⟨a0, a1, a2, a3, a4, a5, a6, a7, a8⟩ := row9 (HT.out.at HK1.out)
    obtain ⟨oo, oc, m2⟩ := HOBJ.out _ _ HT.out
    have hl100 := HLT.out.2.1
    clear a0 a1 a3 a4 a5 a6 a7 a8
    by_cases hji : ((j : Nat) : Int) < i
    · by_cases hjn : j < Nn
      · have hjN : ((j : Nat) : Int) < ((Nn : Nat) : Int) := by omega
        obtain ⟨i1, hi1, hy0, hy1, hy2⟩ := info_parts infoVal
        have HRA := Lib.hid (row1o wr [.int .i64 7, .int .i64 ((((Nn : Nat) : Int) - 1) - ((j : Nat) : Int))] 35)
        have HOA := Lib.hid (HOW.out.alloc (.cells #[.int .i64 7, .int .i64 ((((Nn : Nat) : Int) - 1) - ((j : Nat) : Int))] 35))
        have HBA := Lib.hid (below1 wr (.cells #[.int .i64 7, .int .i64 ((((Nn : Nat) : Int) - 1) - ((j : Nat) : Int))] 35))
        go_wp2_with (at_builtin; go_loud (refine wpList_append_row _ rfl _ _ 33 rfl w0.heap.size 35 i1 _ 2 16 Try.underlying33 hi1 hy0 hy1 hy2 rfl (by decide) (.slice ro (l.length + j) rc) (l.length + j) (vcs (l ++ lastA Nn j)) rfl HOA.out _ 1 [.int .i64 7, .int .i64 ((((Nn : Nat) : Int) - 1) - ((j : Nat) : Int))] rfl HRA.out (by intro u hu; simp only [List.mem_cons, List.not_mem_nil, or_false] at hu; rcases hu with rfl | rfl <;> rfl) (by unfold maxLen; omega) (by omega) (by have := HT.out.bel.size; simp; omega) ?_); go_loud (intro v' w7 hown7 hgrow7 hmv7; have HO7 := Lib.hid hown7; have HG7 := Lib.hid hgrow7; have HM7 := Lib.hid hmv7; clear hown7 hgrow7 hmv7 hi1 hy0 hy1 hy2))
        go_roundw
        case measure => simp only [intOf]; omega
        case rel =>
          have hvl : ∀ b, (Value.slice ro (l.length + j) rc).ownBlock = some b → b < wr.heap.size := fun b hb => (HOW.out.lt b hb).2
          have h1 := HT.out.below HBA.out
          rw [← ktrack_below HBA.out hvl] at h1
          obtain ⟨h2, h3⟩ := h1.rowed HNO.out (fun b hb => Nat.lt_of_lt_of_le (hvl b hb) HBA.out.size) HG7.out HM7.out (fun b hb => (HO7.out.lt b hb).2)
          refine ⟨j + 1, by omega, by go_num, h2, h3, ?_⟩
          have h4 := HO7.out
          have e : vcs (l ++ lastA Nn j) ++ [.int .i64 7, .int .i64 ((((Nn : Nat) : Int) - 1) - ((j : Nat) : Int))] = vcs (l ++ lastA Nn (j + 1)) := by
            rw [lastA_succ, ← List.append_assoc, vcs_append (l ++ lastA Nn j)]; rfl
          rw [e] at h4
          exact h4
      · have hjN : ¬ ((j : Nat) : Int) < ((Nn : Nat) : Int) := by omega
        obtain ⟨rs, hrs⟩ : ∃ rs, rs = l ++ lastA Nn j := ⟨_, rfl⟩
        have hln : l.length + j = rs.length := by rw [hrs]; simp [lastA_len]
        rw [← hrs] at HOW
        have HRL : Hid (rs.length ≤ 2000000) := Lib.hid (by omega)
        clear hrs
        generalize l.length + j = mm at *
        subst hln
        go_wp2_with fail
        refine (vown_any _ rs _ (RowV.of_own HOW.out) HRL.out).mono ?_
        rintro e w3 ⟨rv2, rfl, hown3, hb3⟩
        have ht3 := HT.out.track (v := rv2) hb3 fun b hb => hown3.lt b hb
        have HT3 := Lib.hid ht3.1
        have HN3 := Lib.hid ht3.2
        have HO3 := Lib.hid hown3
        clear ht3 hown3 hb3
        clear a2 m2
        obtain ⟨R, hst, hkr, hgo⟩ := HT3.out.scol
        have HGO := Lib.hid hgo
        have hcc := stcollect_any gs R s rv2 rs w3 hst (RowV.of_own HO3.out) HRL.out (fun b _ hb => hkr b _ ((ktrack_self hb).trans (Array.getElem?_eq_getElem (HO3.out.lt b hb).2)))
        have HCC := Lib.hid hcc
        clear hcc hst hkr hgo
        go_wp2_with fail
        refine HCC.out.mono ?_
        rintro e w4 hcp
        clear HCC
        rcases hcp with ⟨hall, rfl, hb4⟩ | ⟨hall, v4, R4, rfl, hst4, hfr4, hiff4, hown4⟩
        · have HALL := Lib.hid hall
          have HT4 := Lib.hid (HT3.out.below hb4)
          clear hall hb4 HGO
          have HRW : Hid (∀ W gs' s', TwoX w0 W gs' gm s' s (ktrack (ktrack (kadd κ ab (.cells #[.int .i64 7, .int .i64 k, .int .i64 i, .slice so l.length sc, .int .i64 v0, .int .i64 v1, .int .i64 x0, .int .i64 x1, .string t] 37)) wr (.slice ro rs.length rc)) w3 rv2) → RowV W (.slice ro rs.length rc) rs.length 2 (vcs rs)) := Lib.hid fun W gs' s' hT => row_track (RowV.of_own HOW.out) fun b o hk => hT.at (ktrack_old hk HN3.out)
          obtain ⟨Q, hst, _, hkr, hgo⟩ := HT4.out.rstep
          have hcc := rcollect_any gm Q s (.slice ro rs.length rc) rs w4 hst HG.out.rk (HRW.out _ _ _ HT4.out) HRL.out (fun b _ hb => hkr b _ (ktrack_old ((ktrack_self hb).trans (Array.getElem?_eq_getElem (HOW.out.lt b hb).2)) HN3.out))
          have HCC := Lib.hid hcc
          clear hcc hst hkr hgo
          go_wp2_with fail
          refine HCC.out.mono ?_
          rintro e w5 hcp
          rcases hcp with ⟨_, rfl, hb5⟩ | ⟨hall2, _⟩
          · have HT5 := Lib.hid (HT4.out.below hb5)
            clear hb5 HCC
            go_wp2_with fail
            refine (vsame_any _ _ [] [] _ (rowv_nil _) (rowv_nil _) (Nat.zero_le _)).mono ?_
            rintro e w6 ⟨rfl, hb6⟩
            have HT6 := Lib.hid (HT5.out.below hb6)
            clear hb6
            simp only [decide_true]
            go_wp2_with fail
            go_ret
            exact ⟨rfl, _, HT6.out.sub fun b o hk => ktrack_old (ktrack_old (kadd_old hk (HSUB.out b o hk)) HNO.out) HN3.out, HG.out.more (by omega)⟩
          · rw [HALL.out] at hall2; cases hall2
        · have HALL := Lib.hid hall
          obtain ⟨h4a, h4b⟩ := HGO.out _ _ _ hst4 hfr4 hiff4 v4 fun b hb => hown4.lt b hb
          have HT4 := Lib.hid h4a
          have HN4 := Lib.hid h4b
          have HO4 := Lib.hid hown4
          clear hall hst4 hfr4 hiff4 hown4 h4a h4b HGO
          have HRW : Hid (RowV w4 (.slice ro rs.length rc) rs.length 2 (vcs rs)) := Lib.hid (row_track (RowV.of_own HOW.out) fun b o hk => HT4.out.at (ktrack_old (ktrack_old hk HN3.out) HN4.out))
          obtain ⟨Q, hst, _, hkr, hgo⟩ := HT4.out.rstep
          have HGO := Lib.hid hgo
          have hcc := rcollect_any gm Q s (.slice ro rs.length rc) rs w4 hst HG.out.rk HRW.out HRL.out (fun b _ hb => hkr b _ (ktrack_old (ktrack_old ((ktrack_self hb).trans (Array.getElem?_eq_getElem (HOW.out.lt b hb).2)) HN3.out) HN4.out))
          have HCC := Lib.hid hcc
          clear hcc hst hkr hgo
          go_wp2_with fail
          refine HCC.out.mono ?_
          rintro e w5 hcp
          rcases hcp with ⟨hall2, _⟩ | ⟨_, out, rfl, hp5, hrow5⟩
          · rw [HALL.out] at hall2; cases hall2
          · have HT5 := Lib.hid (HGO.out _ _ hp5)
            have HR5 : Hid (RowV w5 out (rs.map (mvV (rchB s rs))).length 2 (vcs (rs.map (mvV (rchB s rs))))) := Lib.hid (by rw [List.length_map]; exact hrow5)
            have HR4 : Hid (RowV w5 v4 (rs.map (mvV (rchB s rs))).length 2 (vcs (rs.map (mvV (rchB s rs))))) := Lib.hid (by rw [List.length_map]; exact row_track (RowV.of_own HO4.out) fun b o hk => HT5.out.at hk)
            clear hp5 hrow5 HGO HCC
            go_wp2_with fail
            refine (vsame_any _ _ _ _ _ HR4.out HR5.out (by rw [List.length_map]; exact HRL.out)).mono ?_
            rintro e w6 ⟨rfl, hb6⟩
            have HT6 := Lib.hid (HT5.out.below hb6)
            clear hb6
            simp only [decide_true]
            go_wp2_with fail
            go_ret
            exact ⟨rfl, _, HT6.out.sub fun b o hk => ktrack_old (ktrack_old (ktrack_old (kadd_old hk (HSUB.out b o hk)) HNO.out) HN3.out) HN4.out, HG.out.left (rchB s rs)⟩
    · obtain ⟨rs, hrs⟩ : ∃ rs, rs = l ++ lastA Nn j := ⟨_, rfl⟩
      have hln : l.length + j = rs.length := by rw [hrs]; simp [lastA_len]
      rw [← hrs] at HOW
      have HRL : Hid (rs.length ≤ 2000000) := Lib.hid (by omega)
      clear hrs
      generalize l.length + j = mm at *
      subst hln
      go_wp2_with fail
      refine (vown_any _ rs _ (RowV.of_own HOW.out) HRL.out).mono ?_
      rintro e w3 ⟨rv2, rfl, hown3, hb3⟩
      have ht3 := HT.out.track (v := rv2) hb3 fun b hb => hown3.lt b hb
      have HT3 := Lib.hid ht3.1
      have HN3 := Lib.hid ht3.2
      have HO3 := Lib.hid hown3
      clear ht3 hown3 hb3
      clear a2 m2
      obtain ⟨R, hst, hkr, hgo⟩ := HT3.out.scol
      have HGO := Lib.hid hgo
      have hcc := stcollect_any gs R s rv2 rs w3 hst (RowV.of_own HO3.out) HRL.out (fun b _ hb => hkr b _ ((ktrack_self hb).trans (Array.getElem?_eq_getElem (HO3.out.lt b hb).2)))
      have HCC := Lib.hid hcc
      clear hcc hst hkr hgo
      go_wp2_with fail
      refine HCC.out.mono ?_
      rintro e w4 hcp
      clear HCC
      rcases hcp with ⟨hall, rfl, hb4⟩ | ⟨hall, v4, R4, rfl, hst4, hfr4, hiff4, hown4⟩
      · have HALL := Lib.hid hall
        have HT4 := Lib.hid (HT3.out.below hb4)
        clear hall hb4 HGO
        have HRW : Hid (∀ W gs' s', TwoX w0 W gs' gm s' s (ktrack (ktrack (kadd κ ab (.cells #[.int .i64 7, .int .i64 k, .int .i64 i, .slice so l.length sc, .int .i64 v0, .int .i64 v1, .int .i64 x0, .int .i64 x1, .string t] 37)) wr (.slice ro rs.length rc)) w3 rv2) → RowV W (.slice ro rs.length rc) rs.length 2 (vcs rs)) := Lib.hid fun W gs' s' hT => row_track (RowV.of_own HOW.out) fun b o hk => hT.at (ktrack_old hk HN3.out)
        obtain ⟨Q, hst, _, hkr, hgo⟩ := HT4.out.rstep
        have hcc := rcollect_any gm Q s (.slice ro rs.length rc) rs w4 hst HG.out.rk (HRW.out _ _ _ HT4.out) HRL.out (fun b _ hb => hkr b _ (ktrack_old ((ktrack_self hb).trans (Array.getElem?_eq_getElem (HOW.out.lt b hb).2)) HN3.out))
        have HCC := Lib.hid hcc
        clear hcc hst hkr hgo
        go_wp2_with fail
        refine HCC.out.mono ?_
        rintro e w5 hcp
        rcases hcp with ⟨_, rfl, hb5⟩ | ⟨hall2, _⟩
        · have HT5 := Lib.hid (HT4.out.below hb5)
          clear hb5 HCC
          go_wp2_with fail
          refine (vsame_any _ _ [] [] _ (rowv_nil _) (rowv_nil _) (Nat.zero_le _)).mono ?_
          rintro e w6 ⟨rfl, hb6⟩
          have HT6 := Lib.hid (HT5.out.below hb6)
          clear hb6
          simp only [decide_true]
          go_wp2_with fail
          go_ret
          exact ⟨rfl, _, HT6.out.sub fun b o hk => ktrack_old (ktrack_old (kadd_old hk (HSUB.out b o hk)) HNO.out) HN3.out, HG.out.more (by omega)⟩
        · rw [HALL.out] at hall2; cases hall2
      · have HALL := Lib.hid hall
        obtain ⟨h4a, h4b⟩ := HGO.out _ _ _ hst4 hfr4 hiff4 v4 fun b hb => hown4.lt b hb
        have HT4 := Lib.hid h4a
        have HN4 := Lib.hid h4b
        have HO4 := Lib.hid hown4
        clear hall hst4 hfr4 hiff4 hown4 h4a h4b HGO
        have HRW : Hid (RowV w4 (.slice ro rs.length rc) rs.length 2 (vcs rs)) := Lib.hid (row_track (RowV.of_own HOW.out) fun b o hk => HT4.out.at (ktrack_old (ktrack_old hk HN3.out) HN4.out))
        obtain ⟨Q, hst, _, hkr, hgo⟩ := HT4.out.rstep
        have HGO := Lib.hid hgo
        have hcc := rcollect_any gm Q s (.slice ro rs.length rc) rs w4 hst HG.out.rk HRW.out HRL.out (fun b _ hb => hkr b _ (ktrack_old (ktrack_old ((ktrack_self hb).trans (Array.getElem?_eq_getElem (HOW.out.lt b hb).2)) HN3.out) HN4.out))
        have HCC := Lib.hid hcc
        clear hcc hst hkr hgo
        go_wp2_with fail
        refine HCC.out.mono ?_
        rintro e w5 hcp
        rcases hcp with ⟨hall2, _⟩ | ⟨_, out, rfl, hp5, hrow5⟩
        · rw [HALL.out] at hall2; cases hall2
        · have HT5 := Lib.hid (HGO.out _ _ hp5)
          have HR5 : Hid (RowV w5 out (rs.map (mvV (rchB s rs))).length 2 (vcs (rs.map (mvV (rchB s rs))))) := Lib.hid (by rw [List.length_map]; exact hrow5)
          have HR4 : Hid (RowV w5 v4 (rs.map (mvV (rchB s rs))).length 2 (vcs (rs.map (mvV (rchB s rs))))) := Lib.hid (by rw [List.length_map]; exact row_track (RowV.of_own HO4.out) fun b o hk => HT5.out.at hk)
          clear hp5 hrow5 HGO HCC
          go_wp2_with fail
          refine (vsame_any _ _ _ _ _ HR4.out HR5.out (by rw [List.length_map]; exact HRL.out)).mono ?_
          rintro e w6 ⟨rfl, hb6⟩
          have HT6 := Lib.hid (HT5.out.below hb6)
          clear hb6
          simp only [decide_true]
          go_wp2_with fail
          go_ret
          exact ⟨rfl, _, HT6.out.sub fun b o hk => ktrack_old (ktrack_old (ktrack_old (kadd_old hk (HSUB.out b o hk)) HNO.out) HN3.out) HN4.out, HG.out.left (rchB s rs)⟩

end Go.Proofs.Ytioidaojnbenbaa
