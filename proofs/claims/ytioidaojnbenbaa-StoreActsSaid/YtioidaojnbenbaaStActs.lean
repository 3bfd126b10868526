/- The law StoreActs. -/
import Derived.Test.YtioidaojnbenbaaStSnd
import Derived.Test.YtioidaojnbenbaaLwAlk
import Derived.Test.YtioidaojnbenbaaStCopy
namespace Go.Proofs.Ytioidaojnbenbaa
open Go.RowKit

theorem TwoX.copied {w0 w w' : World} {gs gm g2 : Nat} {s t : St} {κ : Nat → Option Obj} {R2 : Nat → Nat} (h : TwoX w0 w gs gm s t κ) (hst : StW w' g2 R2 s) (hnew : ∀ b, R2 b ≠ 0 → w.heap.size ≤ b) (hb : Below w.heap.size w w') : TwoX w0 w' g2 gm s t κ := by
  obtain ⟨R, Q, h1, h2⟩ := h
  have hsz := h1.st.bel.size
  refine ⟨R2, Q, ⟨⟨hst, h1.st.bel.trans (hb.mono h1.st.bel.size), fun b hb' => Nat.le_trans hsz (hnew b hb')⟩, h1.rs.below hb, fun b hq => Classical.byContradiction fun hn => ?_, h1.lo⟩, fun b o hk => ?_⟩
  · have := h1.rs.lt b hq
    have := hnew b hn
    omega
  · have hlt := (Array.getElem?_eq_some_iff.1 (h2 b o hk).1).1
    exact ⟨(hb.block b hlt).trans (h2 b o hk).1, Classical.byContradiction fun hn => by have := hnew b hn; omega, (h2 b o hk).2.2⟩
set_option maxRecDepth 100000 in
/-- No store of so many cells. -/
theorem stnew_bad (z : Int) (w : World) (hz : z < 0 ∨ 1048576 < z) : Calls Try.prog 6 #[.int .i64 z] w fun e w' => e = .returned (.tuple #[.pointer none, .int .i64 1]) ∧ Below w.heap.size w w' := by
  rcases hz with hz | hz
  · have h1 : z < 0 := hz
    go_enter Try.func6, Try.ntmps6
    go_wp2_with fail
    refine bodyPost_ret (v := .tuple #[.pointer none, .int .i64 1]) (by simp [results, Try.results6, go_sem]) rfl ⟨rfl, Below.refl _ _⟩
  · have h1 : ¬ z < 0 := by omega
    have h2 : z > 1048576 := hz
    go_enter Try.func6, Try.ntmps6
    go_wp2_with fail
    refine bodyPost_ret (v := .tuple #[.pointer none, .int .i64 1]) (by simp [results, Try.results6, go_sem]) rfl ⟨rfl, Below.refl _ _⟩

set_option maxRecDepth 100000 in
set_option maxHeartbeats 8000000 in
theorem storeacts_any (z : Int) (av : Value) (es : List AcE) (w : World) (he : ActsAt w av es) :
    Calls Try.prog 3 #[.int .i64 z, av] w fun e w' => e = .returned (.bool true) ∧ Below w.heap.size w w' := by
  have HE := Lib.hid he
  obtain ⟨ao, ec, rfl⟩ : ∃ ao ec, av = .slice ao es.length ec := by obtain ⟨us, ⟨_, _, ao, c, e, _⟩, _⟩ := he; exact ⟨ao, c, e⟩
  clear he
  by_cases hz : z < 0 ∨ 1048576 < z
  · go_enter Try.func3, Try.ntmps3
    go_wp2_with fail
    refine (stnew_bad z w hz).mono ?_
    rintro e w2 ⟨rfl, hb2⟩
    have HB2 := Lib.hid hb2
    clear hb2
    go_wp2_with fail
    refine (answers6_any w2).mono ?_
    rintro e w3 ⟨rfl, hb3⟩
    have HB3 := Lib.hid (HB2.out.trans (hb3.mono HB2.out.size))
    have HB4 := Lib.hid (HB3.out.trans ((below1 w3 (.cells #[.int .i64 z, .int .i64 0, .slice none 0 0, .slice none 0 0] 32)).mono HB3.out.size))
    clear hb3 HB2
    rcases hz with hz | hz
    · have hz1 : ¬ z ≥ 0 := by omega
      have hz1b : decide (0 ≤ z) = false := by rw [decide_eq_false_iff_not]; omega
      go_wp2_with fail
      go_loopw [5, 8] (fun c v wr => c = .pointer none ∧ v = .int .i64 0 ∧ Below w.heap.size w wr) (fun _ _ _ => 0)
      case atStart => exact ⟨rfl, rfl, HB4.out⟩
      case round =>
        obtain ⟨rfl, rfl, hbr⟩ := hrel
        by_cases hlt : (0 : Int) < ((es.length : Nat) : Int)
        · go_wp2_with fail
          go_ret
          exact ⟨rfl, hbr⟩
        · go_wp2_with fail
          go_ret
          exact ⟨rfl, hbr⟩
    · have hz0 : 0 ≤ z := by omega
      have hz1 : z ≥ 0 := by omega
      have hz2 : ¬ z ≤ 1048576 := by omega
      go_wp2_with fail
      go_loopw [5, 8] (fun c v wr => c = .pointer none ∧ v = .int .i64 0 ∧ Below w.heap.size w wr) (fun _ _ _ => 0)
      case atStart => exact ⟨rfl, rfl, HB4.out⟩
      case round =>
        obtain ⟨rfl, rfl, hbr⟩ := hrel
        by_cases hlt : (0 : Int) < ((es.length : Nat) : Int)
        · go_wp2_with fail
          go_ret
          exact ⟨rfl, hbr⟩
        · go_wp2_with fail
          go_ret
          exact ⟨rfl, hbr⟩
  · obtain ⟨L, rfl⟩ : ∃ L : Nat, z = ((L : Nat) : Int) := ⟨z.toNat, by omega⟩
    have hL : L ≤ 1048576 := by omega
    have hz0 : (0 : Int) ≤ ((L : Nat) : Int) := by omega
    have hz1 : ((L : Nat) : Int) ≥ 0 := by omega
    have hz2 : ((L : Nat) : Int) ≤ 1048576 := by omega
    have HL := Lib.hid hL
    clear hz hL
    go_enter Try.func3, Try.ntmps3
    go_wp2_with fail
    refine (qnew L w w (Below.refl _ _) HL.out).mono ?_
    rintro e w2 ⟨gs, hg, rfl, hq, hb⟩
    have HQ2 := Lib.hid hq
    clear hq hb hg
    go_wp2_with fail
    refine (answers6_any w2).mono ?_
    rintro e w3 ⟨rfl, hb3⟩
    have HQ3 := Lib.hid (HQ2.out.below hb3)
    clear hb3 HQ2
    have HX3 : Hid (TwoX w (w3.alloc (.cells #[.int .i64 ((L : Nat) : Int), .int .i64 0, .slice none 0 0, .slice none 0 0] 32)) gs w3.heap.size (St.new L) (St.new L) (fun _ => none)) := Lib.hid (two_new HQ3.out HL.out).x
    clear HQ3
    go_upto_region 5 with fail
    generalize w3.alloc (.cells #[.int .i64 ((L : Nat) : Int), .int .i64 0, .slice none 0 0, .slice none 0 0] 32) = w4 at *
    generalize w3.heap.size = gm at *
    go_wp2_with fail
    go_loopw [5, 8] (fun c v wr => ∃ (i gs : Nat) (s : St), c = .pointer (some ⟨gs, 0, none⟩) ∧ v = .int .i64 (i : Nat) ∧ i ≤ es.length ∧ i ≤ 60 ∧ TwoX w wr gs gm s s (fun _ => none) ∧ Gd s i) (fun _ v _ => es.length - (intOf v).toNat)
    case atStart => exact ⟨0, gs, _, rfl, rfl, Nat.zero_le _, Nat.zero_le _, HX3.out, Gd.new _ _⟩
    case round =>
      obtain ⟨i, gs, s, rfl, rfl, hi, hi60, ht, hgd⟩ := hrel
      have HT := Lib.hid ht
      have HG := Lib.hid hgd
      clear ht hgd HX3
      by_cases hlt : i < es.length ∧ i < 60
      · have hii : ((i : Nat) : Int) < ((es.length : Nat) : Int) := by omega
        have h60 : ((i : Nat) : Int) < 60 := by omega
        obtain ⟨eb, eo, cap, he, hel, hcell⟩ := HE.out.at hlt.1
        injection he with he1 he2 he3
        subst he1 he3
        have hrow : RowV w (es[i]'hlt.1).sv (es[i]'hlt.1).l.length 2 (vcs (es[i]'hlt.1).l) ∧ (es[i]'hlt.1).t.size ≤ reachBytes := by obtain ⟨us, _, h2⟩ := HE.out; exact (h2 i hlt.1).2
        generalize es[i]'hlt.1 = a at *
        have HROW := Lib.hid hrow
        clear hrow
        have hcl : ∀ W, Below w.heap.size w W → ∀ j u, (acL a)[j]? = some u → W.cell? ⟨eb, eo + i * 9 + j, none⟩ = some u := fun W hW j u hu => (hW.cell (p := ⟨eb, _, none⟩) hel).trans (hcell j u hu)
        have HCL := Lib.hid hcl
        clear hcl hcell
        obtain ⟨so, sc, hsv⟩ := rowv_slice HROW.out.1
        have c3 := HCL.out wr HT.out.bel 3 _ rfl
        rw [hsv] at c3
        by_cases hl : a.l.length ≤ 100
        · have hl2 : ¬ ((a.l.length : Nat) : Int) > 100 := by omega
          have HL3 := Lib.hid hl
          have hac := fun gs' W (hT : TwoX w W gs' gm s s (fun _ => none)) => act_any w W gs' gm s i _ a hT HG.out (by omega) HROW.out.1 HL3.out (by have := HROW.out.2; unfold reachBytes at this; omega)
          unfold acL at hac
          rw [hsv] at hac
          have HAC := Lib.hid hac
          have c0 := HCL.out wr HT.out.bel 0 _ rfl
          simp only [Nat.add_zero] at c0
          have HC9 : Hid (∀ W, Below w.heap.size w W → W.cell? ⟨eb, eo + i * 9, none⟩ = some (.int .i64 a.d) ∧ W.cell? ⟨eb, eo + i * 9 + 1, none⟩ = some (.int .i64 a.k) ∧ W.cell? ⟨eb, eo + i * 9 + 2, none⟩ = some (.int .i64 a.i) ∧ W.cell? ⟨eb, eo + i * 9 + 3, none⟩ = some (.slice so a.l.length sc) ∧ W.cell? ⟨eb, eo + i * 9 + 4, none⟩ = some (.int .i64 a.v.1) ∧ W.cell? ⟨eb, eo + i * 9 + 5, none⟩ = some (.int .i64 a.v.2) ∧ W.cell? ⟨eb, eo + i * 9 + 6, none⟩ = some (.int .i64 a.x.1) ∧ W.cell? ⟨eb, eo + i * 9 + 7, none⟩ = some (.int .i64 a.x.2) ∧ W.cell? ⟨eb, eo + i * 9 + 8, none⟩ = some (.string a.t)) := Lib.hid fun W hW =>
            ⟨by have := HCL.out W hW 0 _ rfl; simpa only [Nat.add_zero] using this, HCL.out W hW 1 _ rfl, HCL.out W hW 2 _ rfl, by have := HCL.out W hW 3 _ rfl; rwa [hsv] at this, HCL.out W hW 4 _ rfl, HCL.out W hW 5 _ rfl, HCL.out W hW 6 _ rfl, HCL.out W hW 7 _ rfl, HCL.out W hW 8 _ rfl⟩
          clear hac hsv hl HCL
          by_cases h8 : a.d = 8
          · have h8b : (a.d == 8) = true := by rw [beq_iff_eq]; exact h8
            have hcp : ∃ R, StW wr gs R s := by obtain ⟨R, h1, _⟩ := HT.out.sstep; exact ⟨R, h1⟩
            obtain ⟨R, hst⟩ := hcp
            have hcc := stcopy_all gs R s wr hst fun o ho p hp => by
              obtain ⟨⟨u, e⟩, h2⟩ := HG.out.px o ho p hp
              subst e
              exact ⟨by omega, Nat.zero_le _, Nat.zero_le _, Nat.zero_le _⟩
            have HCC := Lib.hid hcc
            clear hst hcc h8
            go_wp2_with fail
            refine HCC.out.mono ?_
            rintro e w5 ⟨g2, R2, rfl, hst2, hnew, hb5⟩
            have HT5 := Lib.hid (HT.out.copied hst2 hnew hb5)
            clear hst2 hnew hb5 HCC c0 c3
            obtain ⟨d0, d1, d2, d3, d4, d5, d6, d7, d8⟩ := HC9.out w5 HT5.out.bel
            go_wp2_with fail
            refine (HAC.out _ _ HT5.out).mono ?_
            rintro e w6 ⟨rfl, s', ht6, hg6⟩
            have HT6 := Lib.hid ht6
            have HG6 := Lib.hid hg6
            clear ht6 hg6 d0 d1 d2 d3 d4 d5 d6 d7 d8 HT5 HAC HC9
            go_wp2_with fail
            refine (alike_any _ _ _ _ _ _ _ HT6.out HG6.out).mono ?_
            rintro e w7 ⟨rfl, hb7⟩
            have HT7 := Lib.hid (HT6.out.below hb7)
            clear hb7 HT6
            go_wp2_with fail
            go_roundw
            case measure => simp only [intOf]; omega
            case rel => exact ⟨i + 1, _, s', rfl, by go_num, by omega, by omega, HT7.out, HG6.out⟩
          · have h8b : (a.d == 8) = false := by rw [beq_eq_false_iff_ne]; exact h8
            have HT5 := HT
            clear h8
            obtain ⟨d0, d1, d2, d3, d4, d5, d6, d7, d8⟩ := HC9.out wr HT5.out.bel
            go_wp2_with fail
            refine (HAC.out _ _ HT5.out).mono ?_
            rintro e w6 ⟨rfl, s', ht6, hg6⟩
            have HT6 := Lib.hid ht6
            have HG6 := Lib.hid hg6
            clear ht6 hg6 d0 d1 d2 d3 d4 d5 d6 d7 d8 HT5 HAC HC9
            go_wp2_with fail
            refine (alike_any _ _ _ _ _ _ _ HT6.out HG6.out).mono ?_
            rintro e w7 ⟨rfl, hb7⟩
            have HT7 := Lib.hid (HT6.out.below hb7)
            clear hb7 HT6
            go_wp2_with fail
            go_roundw
            case measure => simp only [intOf]; omega
            case rel => exact ⟨i + 1, _, s', rfl, by go_num, by omega, by omega, HT7.out, HG6.out⟩
        · have hl2 : ((a.l.length : Nat) : Int) > 100 := by omega
          have HB := Lib.hid HT.out.bel
          clear hsv hl
          go_wp2_with fail
          go_ret
          exact ⟨rfl, HB.out⟩
      · have hex : ¬ ((i : Nat) : Int) < ((es.length : Nat) : Int) ∨ (((i : Nat) : Int) < ((es.length : Nat) : Int) ∧ ¬ ((i : Nat) : Int) < 60) := by omega
        have HB := Lib.hid HT.out.bel
        rcases hex with hge | ⟨hii, hge⟩
        all_goals
          go_wp2_with fail
          go_ret
          exact ⟨rfl, HB.out⟩
end Go.Proofs.Ytioidaojnbenbaa
