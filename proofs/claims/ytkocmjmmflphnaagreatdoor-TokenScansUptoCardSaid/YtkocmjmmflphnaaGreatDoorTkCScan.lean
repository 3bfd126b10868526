/- ref.Scan -/
import Derived.Test.YtkocmjmmflphnaaGreatDoorTkCMath
import Derived.Test.YtkocmjmmflphnaaGreatDoorTkRAtom
namespace Go.Proofs.YtkocmjmmflphnaaGreatDoor
open Go.RowKit

theorem infoTokR : (Tryz.prog.info? 55).map (fun i => (i.zero, i.size, i.bytes)) = some (some (.agg #[.int .i64 0, .string ⟨#[]⟩, .int .i64 0, .string ⟨#[]⟩, .bool false, .slice none 0 0, .slice none 0 0, .int .i64 0, .int .i64 0]), 9, 120) := by kernel_rfl
/-- The document's words as they lie in memory. -/
structure TkSlR (w : World) (base : Nat) (v : Value) (ps : List (Wd × Value)) : Prop where
  own : OwnQ w base 55 9 v ps.length (wcells ps)
  limbs : ∀ p ∈ ps, Sl .u32 w p.2 p.1.d.r
theorem TkSlR.nil (w : World) (B : Nat) : TkSlR w B (.slice none 0 0) [] := ⟨OwnQ.nil _ _ _ _, fun p hp => by cases hp⟩
def RScanPost (zs : List Int) (w : World) (e : Ending) (w' : World) : Prop :=
  ∃ v ps, e = .returned (.tuple #[v, .int .i64 (scanA zs).2.1, .int .i64 ((scanA zs).2.2 : Nat)]) ∧ ps.map (·.1) = (scanA zs).1 ∧ TkSlR w' w.heap.size v ps ∧ ps.length ≤ 1000000 ∧ Below w.heap.size w w'
theorem RScanPost.mk {zs : List Int} {w w' : World} {v : Value} {ps : List (Wd × Value)} {ws : List Wd} {p : Int} {e : Nat} (h : scanA zs = (ws, p, e)) (hp : ps.map (·.1) = ws) (ht : TkSlR w' w.heap.size v ps) (hl : ps.length ≤ 1000000) (hb : Below w.heap.size w w') :
    RScanPost zs w (.returned (.tuple #[v, .int .i64 p, .int .i64 (e : Nat)])) w' := ⟨v, ps, by rw [h], by rw [h]; exact hp, ht, hl, hb⟩
/-- What the loop over words holds. -/
def RS (w : World) (cs : List Nat) (v iv : Value) (wr : World) : Prop :=
  ∃ (k : Nat) (ps : List (Wd × Value)), k ≤ cs.length ∧ iv = .int .i64 (k : Nat) ∧ wdsA cs k (ps.map (·.1)) = wdsA cs 0 [] ∧ OwnQ wr w.heap.size 55 9 v ps.length (wcells ps) ∧ (∀ p ∈ ps, Sl .u32 wr p.2 p.1.d.r) ∧ ps.length ≤ k ∧ Below w.heap.size w wr
theorem rs_step {w wq w8 : World} {cs : List Nat} {v v8 iv : Value} {k : Nat} {ps : List (Wd × Value)} {x : Wd} {lv : Value} {o : Obj} (hw : wdsA cs k (ps.map (·.1)) = wdsA cs 0 []) (hs : skp cs k = k) (hk : k < cs.length) {j : Nat} (hx : wrdA cs k = some (x, j)) (j' : Nat) (hj : j' = j ∧ j ≤ cs.length) (hiv : iv = .int .i64 (j' : Nat))
    (hown : OwnQ wq w.heap.size 55 9 v ps.length (wcells ps)) (hlim : ∀ p ∈ ps, Sl .u32 wq p.2 p.1.d.r) (hlv : Sl .u32 wq lv x.d.r) (hb : Below w.heap.size w wq) (hsz : w.heap.size ≤ wq.heap.size)
    (hown8 : OwnQ w8 w.heap.size 55 9 v8 (ps.length + 1) (wcells ps ++ wdL x lv)) (hgrow : World.grownBy (wq.alloc o) w8 (Value.ownBlock v)) (hu : U32S (wq.alloc o) w8) (hpk : ps.length ≤ k) : RS w cs v8 iv w8 := by
  have hlo := hown.own.lt
  have hgt := wrdA_gt hx
  refine ⟨j', ps ++ [(x, lv)], by omega, hiv, ?_, ?_, ?_, by simp; omega, (hb.alloc hsz o).grown hgrow (by simp; omega) (fun q hq => (hlo q hq).1)⟩
  · rw [← hw, wdsA_step (i := k) (x := x) (j := j) (by rw [hs]; exact hk) (by rw [hs]; exact hx), hj.1]
    simp
  · have e : (ps ++ [(x, lv)]).length = ps.length + 1 := by simp
    rw [e, wcells_snoc]
    exact hown8
  · intro p hp
    rcases List.mem_append.1 hp with hp | hp
    · exact ((hlim p hp).below (below1 wq o)).u32s hu
    · rw [List.mem_singleton] at hp; subst hp
      exact (hlv.below (below1 wq o)).u32s hu
/-- A sign's word. -/
theorem sg_word {cs : List Nat} {k : Nat} (hk : k < cs.length) (h : 0 < (sgR (limb cs k) (atZ cs (k + 1)) (atZ cs (k + 2))).2.2) :
    wrdA cs k = some (⟨(sgR (limb cs k) (atZ cs (k + 1)) (atZ cs (k + 2))).1, (sgR (limb cs k) (atZ cs (k + 1)) (atZ cs (k + 2))).2.1, zD, 0, k⟩, k + (sgR (limb cs k) (atZ cs (k + 1)) (atZ cs (k + 2))).2.2) := by
  cases hm : markA cs k with
  | some q =>
    have hv := hm
    rw [mark_val hk] at hv
    have e : sgR (limb cs k) (atZ cs (k + 1)) (atZ cs (k + 2)) = (mKind q, mName q, (mText q).length) := by unfold sgR; rw [hv]
    rw [wrdA_mark hm, e]
    rfl
  | none =>
    have hv := hm
    rw [mark_val hk] at hv
    by_cases hd : limb cs k = 46 ∧ (atZ cs (k + 1) < 0 ∨ enB (atZ cs (k + 1)) = true)
    · have e : sgR (limb cs k) (atZ cs (k + 1)) (atZ cs (k + 2)) = (4, [], 1) := by unfold sgR; rw [hv]; exact if_pos hd
      rw [e, wrd_dot hk hd.1 hd.2]
      rfl
    · have e : sgR (limb cs k) (atZ cs (k + 1)) (atZ cs (k + 2)) = (0, [], 0) := by unfold sgR; rw [hv]; exact if_neg hd
      rw [e] at h
      simp at h
theorem sg_none {cs : List Nat} {k : Nat} (hk : k < cs.length) (h : (sgR (limb cs k) (atZ cs (k + 1)) (atZ cs (k + 2))).2.2 = 0) :
    markA cs k = none ∧ ¬ (limb cs k = 46 ∧ (atZ cs (k + 1) < 0 ∨ enB (atZ cs (k + 1)) = true)) := by
  cases hm : markA cs k with
  | some q =>
    have hv := hm
    rw [mark_val hk] at hv
    have e : sgR (limb cs k) (atZ cs (k + 1)) (atZ cs (k + 2)) = (mKind q, mName q, (mText q).length) := by unfold sgR; rw [hv]
    rw [e] at h
    have := mText_pos ⟨q, markA_lt hm⟩
    simp only at h this
    omega
  | none =>
    have hv := hm
    rw [mark_val hk] at hv
    refine ⟨rfl, fun hd => ?_⟩
    have e : sgR (limb cs k) (atZ cs (k + 1)) (atZ cs (k + 2)) = (4, [], 1) := by unfold sgR; rw [hv]; exact if_pos hd
    rw [e] at h
    simp at h
theorem sg_len {c : Nat} {d e : Int} : (sgR c d e).2.2 ≤ 3 := by
  unfold sgR
  split
  · exact mText_len _
  · split <;> simp
theorem wrdA_pl' {cs : List Nat} {k j : Nat} {x : Wd} (hk : k < cs.length) (h : wrdA cs k = some (x, j)) : j ≤ cs.length := by
  cases hm : markA cs k with
  | some q =>
    rw [wrdA_mark hm] at h
    injection h with h; injection h with _ h
    unfold markA at hm
    rw [List.find?_range_eq_some] at hm
    rcases pfx_iff.1 hm.1 with h1 | h1
    · omega
    · rw [h1] at h; simp at h; omega
  | none =>
    by_cases h1 : limb cs k = 34
    · rw [wrdA_quo hm h1] at h
      unfold quoW at h
      rw [Option.map_eq_some_iff] at h
      obtain ⟨⟨l, q⟩, hq, h⟩ := h
      injection h with _ h
      have := quoA_gt _ _ _ _ _ rfl hq
      simp only at h
      omega
    · cases h2 : pfx [35, 92] cs k with
      | true =>
        rw [wrdA_chr hm h1 h2] at h
        unfold chrW at h
        rw [Option.map_eq_some_iff] at h
        obtain ⟨⟨l, q⟩, hq, h⟩ := h
        injection h with _ h
        have := chrA_gt hq
        simp only at h
        omega
      | false =>
        rw [wrdA_atm hm h1 h2] at h
        have ht := @til_le enN cs k (by omega)
        unfold atmW at h
        split at h
        · injection h with h; injection h with _ h; omega
        · rw [Option.map_eq_some_iff] at h
          obtain ⟨d, hq, h⟩ := h
          injection h with _ h
          omega
theorem scan_err {zs : List Int} {k : Nat} {acc : List Wd} (hz : idxZ (fun c => !scB c) zs < 0) (hw : wdsA (zs.map Int.toNat) k acc = wdsA (zs.map Int.toNat) 0 []) (hs : skp (zs.map Int.toNat) k = k) (hk : k < (zs.map Int.toNat).length) (hx : wrdA (zs.map Int.toNat) k = none) : scanA zs = ([], ((k : Nat) : Int), 3) := by
  have h0 : wdsA (zs.map Int.toNat) 0 [] = ([], some k) := by
    rw [← hw, wdsA_bad (i := k) (by rw [hs]; exact hk) (by rw [hs]; exact hx), hs]
  have h1 : scanW (zs.map Int.toNat) = ([], k, 3) := by unfold scanW; rw [h0]
  unfold scanA
  rw [if_pos hz, h1]
theorem scan_end {zs : List Int} {k : Nat} {acc : List Wd} (hz : idxZ (fun c => !scB c) zs < 0) (hw : wdsA (zs.map Int.toNat) k acc = wdsA (zs.map Int.toNat) 0 []) (hk : (zs.map Int.toNat).length ≤ k) : scanA zs = (acc, 0, 0) := by
  have h0 : wdsA (zs.map Int.toNat) 0 [] = (acc, none) := by rw [← hw, wdsA_end (by rw [skp_end hk]; exact hk)]
  have h1 : scanW (zs.map Int.toNat) = (acc, 0, 0) := by unfold scanW; rw [h0]
  unfold scanA
  rw [if_pos hz, h1]
  rfl

set_option maxRecDepth 100000 in
set_option maxHeartbeats 8000000 in
theorem rscan_any (sv : Value) (zs : List Int) (w : World) (hs : SlV w sv (intCells zs)) (hl : zs.length ≤ 1000000) :
    Calls Tryz.prog 7 #[sv] w (RScanPost zs w) := by
  obtain ⟨i0, hi, hz0, hz1, hz2⟩ := info_parts infoTokR
  have HSV := Lib.hid hs
  obtain ⟨_, ao, cap, rfl, hcap, hh⟩ := hs
  rw [intCells_len] at hcap
  have HC : Hid (∀ j, j < zs.length → ∃ b off, ao = some ⟨b, off, none⟩ ∧ w.cell? ⟨b, off + j, none⟩ = some (.int .i64 (zs.getD j 0))) := Lib.hid fun j hj => by
    rcases hh with ⟨h, _⟩ | ⟨b, off, h1, h2, h3⟩
    · have := intCells_len zs; rw [h] at this; simp at this; omega
    · exact ⟨b, off, h1, h3 j _ (intCells_at hj)⟩
  clear hh
  have hil := intCells_len zs
  rw [hil]
  clear hil
  go_enter Tryz.func7, Tryz.ntmps7
  go_wp2_with fail
  go_loopw [5] (fun v wr => ∃ k : Nat, k ≤ zs.length ∧ v = .int .i64 (k : Nat) ∧ (∀ j, j < k → scB (zs.getD j 0) = true) ∧ wr = w) (fun v _ => zs.length - (intOf v).toNat)
  case atStart => exact ⟨0, Nat.zero_le _, rfl, fun j hj => by omega, rfl⟩
  case round =>
    obtain ⟨k, hk, rfl, hall, rfl⟩ := hrel
    have HALL := Lib.hid hall
    clear hall
    by_cases hkn : k < zs.length
    · have hki : ((k : Nat) : Int) < ((zs.length : Nat) : Int) := by omega
      obtain ⟨b, off, rfl, hcell⟩ := HC.out k hkn
      obtain ⟨z, hz⟩ : ∃ z, z = zs.getD k 0 := ⟨_, rfl⟩
      rw [← hz] at hcell
      have HZ := Lib.hid hz
      clear hz
      go_wp2_with fail
      refine (rscalar_any z _).mono ?_
      rintro e w1 ⟨rfl, rfl⟩
      cases hsc : scB z
      · have HERR : Hid (scanA zs = ([], ((k : Nat) : Int), 1)) := Lib.hid (by
          have hid := idxZ_hit (p := fun c => !scB c) hkn (fun j hj => by have h := HALL.out j hj; show (!scB (zs.getD j 0)) = false; rw [h]; rfl) (by show (!scB (zs.getD k 0)) = true; rw [← HZ.out, hsc]; rfl)
          unfold scanA
          rw [hid, if_neg (by omega)])
        clear hsc
        go_wp2_with fail
        refine bodyPost_ret (v := .tuple #[.slice none 0 0, .int .i64 (k : Nat), .int .i64 1]) (by simp [results, Tryz.results7, go_sem]) rfl ?_
        exact RScanPost.mk (p := ((k : Nat) : Int)) (e := 1) (ps := []) HERR.out rfl (TkSlR.nil _ _) (by simp) (Below.refl _ _)
      · have HSCB := Lib.hid hsc
        clear hsc
        go_wp2_with fail
        go_roundw
        case measure => simp only [intOf]; omega
        case rel =>
          refine ⟨k + 1, by omega, by go_num, fun j hj => ?_, by first | rfl | trivial⟩
          rcases Nat.lt_or_eq_of_le (Nat.le_of_lt_succ hj) with h | rfl
          · exact HALL.out j h
          · rw [← HZ.out]; exact HSCB.out
    · obtain rfl : k = zs.length := by omega
      have hidx : idxZ (fun c => !scB c) zs < 0 := by
        rw [idxZ_none (fun j hj => by have h := HALL.out j hj; show (!scB (zs.getD j 0)) = false; rw [h]; rfl)]
        omega
      have HIDX := Lib.hid hidx
      have hpos : ∀ z ∈ zs, 0 ≤ z := fun z hz => by
        obtain ⟨j, hj, rfl⟩ := List.getElem_of_mem hz
        have := HALL.out j hj
        rw [List.getD_eq_getElem?_getD, List.getElem?_eq_getElem hj] at this
        exact (scB_range this).1
      have hsl := nat_slv HSV.out hpos
      have hscn : ∀ c ∈ zs.map Int.toNat, scN c := fun c hc => by
        obtain ⟨z, hz, rfl⟩ := List.mem_map.1 hc
        obtain ⟨j, hj, rfl⟩ := List.getElem_of_mem hz
        have h := HALL.out j hj
        rw [List.getD_eq_getElem?_getD, List.getElem?_eq_getElem hj] at h
        have h4 : scB zs[j] = true := h
        have h2 := scB_range h4
        have h3 := scB_nat (zs[j]).toNat
        rw [show ((((zs[j]).toNat : Nat)) : Int) = zs[j] by omega] at h3
        rw [h4] at h3
        exact of_decide_eq_true h3.symm
      have hln : (zs.map Int.toNat).length = zs.length := by simp
      obtain ⟨cs, hcs⟩ : ∃ cs, cs = zs.map Int.toNat := ⟨_, rfl⟩
      have HERRF : Hid (∀ (k : Nat) (acc : List Wd), wdsA cs k acc = wdsA cs 0 [] → skp cs k = k → k < cs.length → wrdA cs k = none → scanA zs = ([], ((k : Nat) : Int), 3)) := Lib.hid (by rw [hcs]; exact fun k acc a b c d => scan_err hidx a b c d)
      have HENDF : Hid (∀ (k : Nat) (acc : List Wd), wdsA cs k acc = wdsA cs 0 [] → cs.length ≤ k → scanA zs = (acc, 0, 0)) := Lib.hid (by rw [hcs]; exact fun k acc a b => scan_end hidx a b)
      rw [← hcs] at hsl hscn hln
      rw [← hln] at hl hcap ⊢
      have HSL : Hid (Sl .i64 wr (.slice ao cs.length cap) cs) := Lib.hid (by
        obtain ⟨h1, a', c', hv, h2, h3⟩ := hsl
        rw [intCells_len] at hv
        have e : (Value.slice ao zs.length cap) = .slice a' cs.length c' := hv
        rw [← hln] at e
        simp only [Value.slice.injEq, true_and] at e
        obtain ⟨rfl, rfl⟩ := e
        exact ⟨h1, _, _, rfl, h2, h3⟩)
      have HSC := Lib.hid hscn
      clear hcs hsl hscn hpos hidx HIDX HSV HC HALL hkn hk hln
      obtain ⟨W0, hW0⟩ : ∃ W0, W0 = wr := ⟨_, rfl⟩
      subst hW0
      go_wp2_with fail
      go_loopw [6, 7] (fun v iv wr => RS W0 cs v iv wr) (fun _ iv _ => cs.length - (intOf iv).toNat)
      case atStart => exact ⟨0, [], Nat.zero_le _, rfl, rfl, OwnQ.nil _ _ _ _, (fun p hp => by cases hp), Nat.le_refl _, Below.refl _ _⟩
      case round =>
        obtain ⟨k, ps, hk, rfl, hwd, hown, hlim, hpk, hbel⟩ := hrel
        have HWD := Lib.hid hwd
        have HOW := Lib.hid hown
        have HLM := Lib.hid hlim
        have HBX := Lib.hid hbel
        have HSW := Lib.hid (HSL.out.below hbel)
        have hsz8 := hbel.size
        clear hwd hown hlim hbel
        by_cases hkn : k < cs.length
        · have hki : ((k : Nat) : Int) < ((cs.length : Nat) : Int) := by omega
          obtain ⟨b, off, rfl, hb, hc⟩ := sl_open HSW.out hkn
          have hcell := hc k hkn
          have hscap := sl_cap HSW.out
          have HC := Lib.hid hc
          clear hc
          go_wp2_with fail
          refine (rblank_any _ _).mono ?_
          rintro e w1 ⟨rfl, rfl⟩
          cases hbl : blB ((limb cs k : Nat) : Int)
          · have HBL : Hid (blN (limb cs k) = false) := Lib.hid hbl
            clear hbl
            by_cases h59 : limb cs k = 59
            · have hc59 := hcell
              rw [h59] at hc59
              have HTL : Hid (skp cs k = skp cs (til nlN cs k)) := Lib.hid (by rw [skp_semi hkn h59, nl_semi hkn h59])
              have hgt : k + 1 ≤ til nlN cs k := by rw [nl_semi hkn h59]; exact til_ge'
              have hle := @til_le nlN cs k (by omega)
              clear hcell
              go_wp2_with fail
              go_loopw [7] (fun v wz => ∃ m : Nat, k ≤ m ∧ m ≤ til nlN cs k ∧ v = .int .i64 (m : Nat) ∧ wz = wr) (fun v _ => til nlN cs k - (intOf v).toNat)
              case atStart => exact ⟨k, Nat.le_refl _, by omega, rfl, rfl⟩
              case round =>
                obtain ⟨m, hm1, hm2, rfl, rfl⟩ := hrel
                by_cases hm3 : m < til nlN cs k
                · have hml : ((m : Nat) : Int) < ((cs.length : Nat) : Int) := by omega
                  have hno := til_no (p := nlN) (cs := cs) (i := k) (j := m) hm1 hm3
                  have h10 : (((limb cs m : Nat) : Int) != 10) = true := by
                    rw [bne_iff_ne]
                    intro he
                    have h0 : limb cs m = 10 := by omega
                    rw [h0] at hno
                    cases hno
                  have hcm := HC.out m (by omega)
                  clear hno
                  go_wp2_with fail
                  go_roundw
                  case measure => simp only [intOf]; omega
                  case rel => exact ⟨m + 1, by omega, by omega, by go_num, by first | rfl | trivial⟩
                · have hme : m = til nlN cs k := by omega
                  have HREL : Hid (wdsA cs m (ps.map (·.1)) = wdsA cs 0 []) := Lib.hid (by rw [← HWD.out]; refine wds_skp ?_; rw [hme, ← HTL.out])
                  by_cases hml0 : m < cs.length
                  · have hml : ((m : Nat) : Int) < ((cs.length : Nat) : Int) := by omega
                    have h10 : limb cs m = 10 := by
                      have h0 : nlN (limb cs (til nlN cs k)) = true := til_at (by omega)
                      rw [← hme] at h0
                      exact beq_iff_eq.1 h0
                    have hcm := HC.out m hml0
                    rw [h10] at hcm
                    have hmk : k < m := by omega
                    clear hme hm3 hgt hle
                    go_wp2_with fail
                    go_roundw
                    case measure => simp only [intOf]; omega
                    case rel => exact ⟨m, ps, by omega, rfl, HREL.out, HOW.out, HLM.out, by omega, HBX.out⟩
                  · have hml : ¬ ((m : Nat) : Int) < ((cs.length : Nat) : Int) := by omega
                    have hmk : k < m := by omega
                    have hmc : m ≤ cs.length := by omega
                    clear hme hm3 hgt hle
                    go_wp2_with fail
                    go_roundw
                    case measure => simp only [intOf]; omega
                    case rel => exact ⟨m, ps, hmc, rfl, HREL.out, HOW.out, HLM.out, by omega, HBX.out⟩
            · have t59 : (((limb cs k : Nat) : Int) == 59) = false := by rw [beq_eq_false_iff_ne]; omega
              have hskp : skp cs k = k := skp_stop hkn h59 HBL.out
              have hsg := rsign_any (some ⟨b, off, none⟩) cap cs k wr HSW.out (by omega) hkn
              go_wp2_with fail
              refine hsg.mono ?_
              rintro e w1 ⟨rfl, rfl⟩
              clear hsg t59
              have hs3 := @sg_len (limb cs k) (atZ cs (k + 1)) (atZ cs (k + 2))
              by_cases hn0 : 0 < (sgR (limb cs k) (atZ cs (k + 1)) (atZ cs (k + 2))).2.2
              · have hxw := sg_word hkn hn0
                generalize sgR (limb cs k) (atZ cs (k + 1)) (atZ cs (k + 2)) = S at *
                obtain ⟨K, NM, N⟩ := S
                simp only at hn0 hxw hs3
                have HXW := Lib.hid hxw
                have hjl : k + N ≤ cs.length := (wrdA_pl' hkn hxw)
                have hn1 : (0 : Int) < ((N : Nat) : Int) := by omega
                clear hxw hcell
                go_wp2_with (at_builtin; go_loud (refine wpList_append_q rfl _ _ 29 rfl W0.heap.size 55 i0 (.agg #[.int .i64 0, .string ⟨#[]⟩, .int .i64 0, .string ⟨#[]⟩, .bool false, .slice none 0 0, .slice none 0 0, .int .i64 0, .int .i64 0]) 9 120 Tryz.underlying29 hi hz0 hz1 hz2 rfl (by decide) zeroTok _ ps.length (wcells ps) rfl (HOW.out.alloc _) ⟨wr.heap.size, 0, none⟩ 1 1 (wdL ⟨K, NM, zD, 0, k⟩ (.slice none 0 0)) rfl (by simp [wdL]) (fun j u h => new_cells wr _ _ j u h) (by intro u hu; simp [wdL] at hu; rcases hu with rfl | rfl | rfl | rfl | rfl | rfl | rfl | rfl | rfl <;> rfl) (by decide) (by unfold maxLen; omega) (by omega) (by simp; omega) ?_); intro v8 w8 hown8 hgrow8 hu8)
                go_roundw
                case measure => simp only [intOf]; omega
                case rel =>
                  exact rs_step HWD.out hskp hkn (HXW.out) (k + N) ⟨rfl, hjl⟩ (by go_num) HOW.out HLM.out (Sl.nil _ _) HBX.out hsz8 hown8 hgrow8 hu8 hpk
              · obtain ⟨hmk, hnd⟩ := sg_none hkn (by omega)
                have hz0' : (sgR (limb cs k) (atZ cs (k + 1)) (atZ cs (k + 2))).2.2 = 0 := by omega
                rw [hz0']
                generalize (sgR (limb cs k) (atZ cs (k + 1)) (atZ cs (k + 2))).1 = K at *
                generalize (sgR (limb cs k) (atZ cs (k + 1)) (atZ cs (k + 2))).2.1 = NM at *
                clear hz0' hn0 hs3
                have HMK := Lib.hid hmk
                have HND := Lib.hid hnd
                clear hmk hnd
                by_cases h34 : limb cs k = 34
                · have hc34 := hcell
                  rw [h34] at hc34
                  have HNONE : Hid (capA (txtA cs (k + 1) []) = none → wrdA cs k = none) := Lib.hid fun h => by rw [wrdA_quo HMK.out h34]; unfold quoW; rw [quo_txt _ _ _ rfl (by simp), h]; rfl
                  have HSOME : Hid (∀ l j, capA (txtA cs (k + 1) []) = some (l, j) → wrdA cs k = some (leafW ⟨5, encL l, false, []⟩ k, j)) := Lib.hid fun l j h => by rw [wrdA_quo HMK.out h34]; unfold quoW; rw [quo_txt _ _ _ rfl (by simp), h]; rfl
                  have htx := rtext_any (some ⟨b, off, none⟩) cap cs (k + 1) wr HSW.out (by omega) (by omega) HSC.out
                  clear hcell h34
                  go_wp2_with fail
                  refine htx.mono ?_
                  rintro e w2 ⟨hb2, ⟨l, j, v2, hcp, rfl, hsl, hl4, hlsc, hjl0⟩ | ⟨hcp, rfl⟩⟩
                  · have HXW := Lib.hid (HSOME.out l j hcp)
                    have HBY := Lib.hid (HBX.out.trans (hb2.mono HBX.out.size))
                    have HOY := Lib.hid (HOW.out.below hb2)
                    have HLY : Hid (∀ p ∈ ps, Sl .u32 w2 p.2 p.1.d.r) := Lib.hid fun p hp => (HLM.out p hp).below hb2
                    have HLV := Lib.hid hsl
                    have HLS := Lib.hid hlsc
                    obtain ⟨_, a2, c2, rfl, _, _⟩ := hsl
                    have hj0 : ¬ ((j : Nat) : Int) < 0 := by omega
                    have hkj := wrdA_gt HXW.out
                    clear hcp hb2 hlsc htx
                    go_wp2_with fail
                    refine (rstr_any _ l _ HLV.out (by omega) HLS.out).mono ?_
                    rintro e w3 ⟨rfl, hb3⟩
                    have HBZ := Lib.hid (HBY.out.trans (hb3.mono HBY.out.size))
                    have HOZ := Lib.hid (HOY.out.below hb3)
                    have HLZ : Hid (∀ p ∈ ps, Sl .u32 w3 p.2 p.1.d.r) := Lib.hid fun p hp => (HLY.out p hp).below hb3
                    have hjl : j ≤ cs.length := hjl0
                    replace hsz8 := HBZ.out.size
                    clear hb3
                    go_wp2_with (at_builtin; go_loud (refine wpList_append_q rfl _ _ 29 rfl W0.heap.size 55 i0 (.agg #[.int .i64 0, .string ⟨#[]⟩, .int .i64 0, .string ⟨#[]⟩, .bool false, .slice none 0 0, .slice none 0 0, .int .i64 0, .int .i64 0]) 9 120 Tryz.underlying29 hi hz0 hz1 hz2 rfl (by decide) zeroTok _ ps.length (wcells ps) rfl (HOZ.out.alloc _) ⟨w3.heap.size, 0, none⟩ 1 1 (wdL (leafW ⟨5, encL l, false, []⟩ k) (.slice none 0 0)) rfl (by simp [wdL]) (fun j u h => new_cells w3 _ _ j u h) (by intro u hu; simp [wdL] at hu; rcases hu with rfl | rfl | rfl | rfl | rfl | rfl | rfl | rfl | rfl <;> rfl) (by decide) (by unfold maxLen; omega) (by omega) (by simp; omega) ?_); intro v8 w8 hown8 hgrow8 hu8)
                    go_roundw
                    case measure => simp only [intOf]; omega
                    case rel =>
                      exact rs_step HWD.out hskp hkn (HXW.out) j ⟨rfl, hjl⟩ (by go_num) HOZ.out HLZ.out (Sl.nil _ _) HBZ.out hsz8 hown8 hgrow8 hu8 hpk
                  · have HERR := Lib.hid (HERRF.out k _ HWD.out hskp hkn (HNONE.out hcp))
                    replace HBX := Lib.hid (HBX.out.trans (hb2.mono HBX.out.size))
                    clear hcp hb2 htx
                    go_wp2_with fail
                    refine bodyPost_ret (v := .tuple #[.slice none 0 0, .int .i64 (k : Nat), .int .i64 3]) (by simp [results, Tryz.results7, go_sem]) rfl ?_
                    exact RScanPost.mk (p := ((k : Nat) : Int)) (e := 3) (ps := []) HERR.out rfl (TkSlR.nil _ _) (by simp) HBX.out
                have t34 : (((limb cs k : Nat) : Int) == 34) = false := by rw [beq_eq_false_iff_ne]; omega
                have H34 := Lib.hid h34
                clear h34
                by_cases h35 : limb cs k = 35
                · have hc35 := hcell
                  rw [h35] at hc35 t34
                  have hat := rat_any (some ⟨b, off, none⟩) cap cs (k + 1) wr HSW.out
                  clear hcell
                  have H35 := Lib.hid h35
                  clear h35
                  go_wp2_with fail
                  refine hat.mono ?_
                  rintro e w2 ⟨rfl, rfl⟩
                  clear hat
                  by_cases h92 : atZ cs (k + 1) = 92
                  · have hpf : pfx [35, 92] cs k = true := by rw [pfx_two hkn, decide_eq_true_iff]; exact ⟨H35.out, h92⟩
                    have HWC := Lib.hid (wrdA_chr HMK.out H34.out hpf)
                    rw [h92]
                    clear h92 hpf
                    by_cases hk2 : cs.length ≤ k + 2
                    · have HERR := Lib.hid (HERRF.out k _ HWD.out hskp hkn (by rw [HWC.out]; unfold chrW; rw [chrA_out hk2]; rfl))
                      have hk2i : ((cs.length : Nat) : Int) ≤ ((k : Nat) : Int) + 2 := by omega
                      go_wp2_with fail
                      refine bodyPost_ret (v := .tuple #[.slice none 0 0, .int .i64 (k : Nat), .int .i64 3]) (by simp [results, Tryz.results7, go_sem]) rfl ?_
                      exact RScanPost.mk (p := ((k : Nat) : Int)) (e := 3) (ps := []) HERR.out rfl (TkSlR.nil _ _) (by simp) HBX.out
                    · have hk2i : ¬ ((cs.length : Nat) : Int) ≤ ((k : Nat) : Int) + 2 := by omega
                      have hun := runtil_any (some ⟨b, off, none⟩) cap cs (k + 3) wr HSW.out (by omega) (by omega)
                      have hEg := @til_ge' enN cs (k + 3)
                      have hEl := @til_le enN cs (k + 3) (by omega)
                      have HWC2 : Hid (wrdA cs k = ((namedA (encL (cutN cs (k + 2) (til enN cs (k + 3))))).map fun c => (leafW ⟨6, encN c, false, []⟩ k, til enN cs (k + 3)))) := Lib.hid (by rw [HWC.out]; unfold chrW; rw [chrA_at (by omega), Option.map_map]; rfl)
                      generalize til enN cs (k + 3) = E at *
                      go_wp2_with fail
                      refine hun.mono ?_
                      rintro e w2 ⟨rfl, rfl⟩
                      clear hun HWC
                      have HCU := Lib.hid (cutN_sl HSW.out (show k + 2 ≤ E by omega) hEl)
                      have HCS : Hid (∀ c ∈ cutN cs (k + 2) E, scN c) := Lib.hid fun c hc => HSC.out c (List.mem_of_mem_drop (List.mem_of_mem_take hc))
                      have HCL : Hid ((cutN cs (k + 2) E).length ≤ 1000000) := Lib.hid (by rw [cutN_len (by omega) hEl]; omega)
                      have hm4 : ((k : Nat) : Int) + 2 ≤ ((E : Nat) : Int) := by omega
                      have hm5 : ((E : Nat) : Int) ≤ ((cap : Nat) : Int) := by omega
                      go_wp2_with fail
                      refine (rstr_any _ _ _ HCU.out HCL.out HCS.out).mono ?_
                      rintro e w3 ⟨rfl, hb3⟩
                      have hnm := rnamed_any (mkB (encL (cutN cs (k + 2) E))) w3 (by rw [mkB_size]; have h1 := encL_len (cutN cs (k + 2) E); have h2 := HCL.out; omega)
                      rw [byt_mk (encL_by HCS.out)] at hnm
                      go_wp2_with fail
                      refine hnm.mono ?_
                      rintro e w4 ⟨rfl, hb4⟩
                      have hb34 := hb3.trans (hb4.mono hb3.size)
                      have HBY := Lib.hid (HBX.out.trans (hb34.mono HBX.out.size))
                      have HOY := Lib.hid (HOW.out.below hb34)
                      have HLY : Hid (∀ p ∈ ps, Sl .u32 w4 p.2 p.1.d.r) := Lib.hid fun p hp => (HLM.out p hp).below hb34
                      clear hnm hb3 hb4 hb34
                      cases hnn : namedA (encL (cutN cs (k + 2) E)) with
                      | none =>
                        have HERR := Lib.hid (HERRF.out k _ HWD.out hskp hkn (by rw [HWC2.out, hnn]; rfl))
                        replace HBX := HBY
                        clear hnn
                        go_wp2_with fail
                        refine bodyPost_ret (v := .tuple #[.slice none 0 0, .int .i64 (k : Nat), .int .i64 3]) (by simp [results, Tryz.results7, go_sem]) rfl ?_
                        exact RScanPost.mk (p := ((k : Nat) : Int)) (e := 3) (ps := []) HERR.out rfl (TkSlR.nil _ _) (by simp) HBX.out
                      | some c =>
                        have hsq := namedA_sc (encL_by HCS.out) hnn
                        have HXW : Hid (wrdA cs k = some (leafW ⟨6, encN c, false, []⟩ k, E)) := Lib.hid (by rw [HWC2.out, hnn]; rfl)
                        have hcl : c ≤ 1114111 := by unfold ScQ at hsq; omega
                        clear hnn hsq
                        go_wp2_with fail
                        refine (rbytes_any c _ hcl).mono ?_
                        rintro e w5 ⟨rfl, rfl⟩
                        have hrow : Row .u8 5 (w4.alloc (.cells ((encN c).map fun (x : Nat) => Value.int .u8 (x : Int)).toArray 5)) w4.heap.size (encN c) := heap_alloc_new w4 _
                        have hsl5 := hrow.sl_all (n := (encN c).length) (cap := (encN c).length) rfl (Nat.le_refl _) (by rw [encN_len]; have := (blen_le c).2; unfold maxLen; omega)
                        have hconv := conv_sl (P := Tryz.prog) (src := 36) (e := 5) (dst := 9) Tryz.underlying36 Tryz.underlying5 Tryz.underlying9 hsl5
                        rw [strOf_mkB'] at hconv
                        have hb5 := below1 w4 (.cells ((encN c).map fun (x : Nat) => Value.int .u8 (x : Int)).toArray 5)
                        have HBZ := Lib.hid (HBY.out.trans (hb5.mono HBY.out.size))
                        have HOZ := Lib.hid (HOY.out.below hb5)
                        have HLZ : Hid (∀ p ∈ ps, Sl .u32 (w4.alloc (.cells ((encN c).map fun (x : Nat) => Value.int .u8 (x : Int)).toArray 5)) p.2 p.1.d.r) := Lib.hid fun p hp => (HLY.out p hp).below hb5
                        clear hrow hsl5 hb5
                        generalize w4.alloc (.cells ((encN c).map fun (x : Nat) => Value.int .u8 (x : Int)).toArray 5) = w5 at *
                        replace hsz8 := HBZ.out.size
                        go_wp2_with (at_builtin; go_loud (refine wpList_append_q rfl _ _ 29 rfl W0.heap.size 55 i0 (.agg #[.int .i64 0, .string ⟨#[]⟩, .int .i64 0, .string ⟨#[]⟩, .bool false, .slice none 0 0, .slice none 0 0, .int .i64 0, .int .i64 0]) 9 120 Tryz.underlying29 hi hz0 hz1 hz2 rfl (by decide) zeroTok _ ps.length (wcells ps) rfl (HOZ.out.alloc _) ⟨w5.heap.size, 0, none⟩ 1 1 (wdL (leafW ⟨6, encN c, false, []⟩ k) (.slice none 0 0)) rfl (by simp [wdL]) (fun j u h => new_cells w5 _ _ j u h) (by intro u hu; simp [wdL] at hu; rcases hu with rfl | rfl | rfl | rfl | rfl | rfl | rfl | rfl | rfl <;> rfl) (by decide) (by unfold maxLen; omega) (by omega) (by simp; omega) ?_); intro v8 w8 hown8 hgrow8 hu8)
                        go_roundw
                        case measure => simp only [intOf]; omega
                        case rel =>
                          exact rs_step HWD.out hskp hkn (HXW.out) E ⟨rfl, hEl⟩ (by go_num) HOZ.out HLZ.out (Sl.nil _ _) HBZ.out hsz8 hown8 hgrow8 hu8 hpk
                  · have t92 : ((atZ cs (k + 1)) == 92) = false := by rw [beq_eq_false_iff_ne]; exact h92
                    have hpf : pfx [35, 92] cs k = false := by
                      rw [pfx_two hkn, decide_eq_false_iff_not]
                      exact fun h => h92 h.2
                    have HPF := Lib.hid hpf
                    clear h92 hpf
                    have hun := runtil_any (some ⟨b, off, none⟩) cap cs k wr HSW.out (by omega) (by omega)
                    have hEg := @til_ge' enN cs k
                    have hEl := @til_le enN cs k (by omega)
                    have HWC2 : Hid (wrdA cs k = (atmA (encL (cutN cs k (til enN cs k)))).map fun d => (leafW d k, til enN cs k)) := Lib.hid (wrd_leaf hkn HMK.out H34.out HPF.out HND.out)
                    generalize til enN cs k = E at *
                    go_wp2_with fail
                    refine hun.mono ?_
                    rintro e w2 ⟨rfl, rfl⟩
                    clear hun
                    have HCU := Lib.hid (cutN_sl HSW.out hEg hEl)
                    have HCS : Hid (∀ c ∈ cutN cs k E, scN c) := Lib.hid fun c hc => HSC.out c (List.mem_of_mem_drop (List.mem_of_mem_take hc))
                    have HCL : Hid ((cutN cs k E).length ≤ 1000000) := Lib.hid (by rw [cutN_len hEg hEl]; omega)
                    have hm4 : ((k : Nat) : Int) ≤ ((E : Nat) : Int) := by omega
                    have hm5 : ((E : Nat) : Int) ≤ ((cap : Nat) : Int) := by omega
                    go_wp2_with fail
                    refine (rstr_any _ _ _ HCU.out HCL.out HCS.out).mono ?_
                    rintro e w3 ⟨rfl, hb3⟩
                    have hnm := ratom_any (mkB (encL (cutN cs k E))) w3 (by rw [mkB_size]; have h1 := encL_len (cutN cs k E); have h2 := HCL.out; omega)
                    rw [byt_mk (encL_by HCS.out)] at hnm
                    go_wp2_with fail
                    refine hnm.mono ?_
                    rintro e w4 ⟨lv, rfl, hlv, hb4⟩
                    have hb34 := hb3.trans (hb4.mono hb3.size)
                    have HBY := Lib.hid (HBX.out.trans (hb34.mono HBX.out.size))
                    have HOY := Lib.hid (HOW.out.below hb34)
                    have HLY : Hid (∀ p ∈ ps, Sl .u32 w4 p.2 p.1.d.r) := Lib.hid fun p hp => (HLM.out p hp).below hb34
                    clear hnm hb3 hb4 hb34
                    cases hnn : atmA (encL (cutN cs k E)) with
                    | none =>
                      have HERR := Lib.hid (HERRF.out k _ HWD.out hskp hkn (by rw [HWC2.out, hnn]; rfl))
                      rw [hnn] at hlv
                      obtain ⟨_, av, cv, rfl, _, _⟩ := hlv
                      replace HBX := HBY
                      clear hnn
                      have hsz9 := HBX.out.size
                      unfold dtV
                      go_wp2_with fail
                      refine bodyPost_ret (v := .tuple #[.slice none 0 0, .int .i64 (k : Nat), .int .i64 3]) (by simp [results, Tryz.results7, go_sem]) rfl ?_
                      exact RScanPost.mk (p := ((k : Nat) : Int)) (e := 3) (ps := []) HERR.out rfl (TkSlR.nil _ _) (by simp) (HBX.out.alloc hsz9 _)
                    | some D =>
                      rw [hnn] at hlv
                      have HLD := Lib.hid hlv
                      have HXW : Hid (wrdA cs k = some (leafW D k, E)) := Lib.hid (by rw [HWC2.out, hnn]; rfl)
                      have hkE := wrdA_gt HXW.out
                      obtain ⟨_, av, cv, rfl, _, _⟩ := hlv
                      obtain ⟨Dk, Dt, Dn, Dr⟩ := D
                      clear hnn
                      have hb5 := below1 w4 (.cells #[.int .i64 (Dk : Nat), .string (mkB Dt), .bool Dn, .slice av Dr.length cv, .slice none 0 0, .int .i64 (k : Nat)] 42)
                      have HBZ := Lib.hid (HBY.out.trans (hb5.mono HBY.out.size))
                      have HOZ := Lib.hid (HOY.out.below hb5)
                      have HLZ : Hid (∀ p ∈ ps, Sl .u32 (w4.alloc (.cells #[.int .i64 (Dk : Nat), .string (mkB Dt), .bool Dn, .slice av Dr.length cv, .slice none 0 0, .int .i64 (k : Nat)] 42)) p.2 p.1.d.r) := Lib.hid fun p hp => (HLY.out p hp).below hb5
                      have HLE := Lib.hid (HLD.out.below hb5)
                      have HSZ5 : Hid ((w4.alloc (.cells #[.int .i64 (Dk : Nat), .string (mkB Dt), .bool Dn, .slice av Dr.length cv, .slice none 0 0, .int .i64 (k : Nat)] 42)).heap.size = w4.heap.size + 1) := Lib.hid (by simp)
                      have hsz4 := HBY.out.size
                      replace hsz8 := HBZ.out.size
                      clear hb5
                      unfold dtV
                      go_wp2_with (at_builtin; go_loud (refine wpList_append_q rfl _ _ 29 rfl W0.heap.size 55 i0 (.agg #[.int .i64 0, .string ⟨#[]⟩, .int .i64 0, .string ⟨#[]⟩, .bool false, .slice none 0 0, .slice none 0 0, .int .i64 0, .int .i64 0]) 9 120 Tryz.underlying29 hi hz0 hz1 hz2 rfl (by decide) zeroTok _ ps.length (wcells ps) rfl (HOZ.out.alloc _) ⟨w4.heap.size + 1, 0, none⟩ 1 1 (wdL (leafW ⟨Dk, Dt, Dn, Dr⟩ k) (.slice av Dr.length cv)) rfl (by simp [wdL]) (fun j u h => by have h2 := new_cells (w4.alloc (.cells #[.int .i64 (Dk : Nat), .string (mkB Dt), .bool Dn, .slice av Dr.length cv, .slice none 0 0, .int .i64 (k : Nat)] 42)) _ 55 j u h; rw [HSZ5.out] at h2; exact h2) (by intro u hu; simp [wdL] at hu; rcases hu with rfl | rfl | rfl | rfl | rfl | rfl | rfl | rfl | rfl <;> rfl) (by decide) (by unfold maxLen; omega) (by omega) (by simp; omega) ?_); intro v8 w8 hown8 hgrow8 hu8)
                      go_roundw
                      case measure => simp only [intOf]; omega
                      case rel =>
                        exact rs_step HWD.out hskp hkn (HXW.out) E ⟨rfl, hEl⟩ (by go_num) HOZ.out HLZ.out (HLE.out) HBZ.out hsz8 hown8 hgrow8 hu8 hpk
                · have t35 : (((limb cs k : Nat) : Int) == 35) = false := by rw [beq_eq_false_iff_ne]; omega
                  have hpf : pfx [35, 92] cs k = false := by
                    rw [pfx_two hkn, decide_eq_false_iff_not]
                    exact fun h => h35 h.1
                  have HPF := Lib.hid hpf
                  clear h35 hpf
                  have hun := runtil_any (some ⟨b, off, none⟩) cap cs k wr HSW.out (by omega) (by omega)
                  have hEg := @til_ge' enN cs k
                  have hEl := @til_le enN cs k (by omega)
                  have HWC2 : Hid (wrdA cs k = (atmA (encL (cutN cs k (til enN cs k)))).map fun d => (leafW d k, til enN cs k)) := Lib.hid (wrd_leaf hkn HMK.out H34.out HPF.out HND.out)
                  generalize til enN cs k = E at *
                  go_wp2_with fail
                  refine hun.mono ?_
                  rintro e w2 ⟨rfl, rfl⟩
                  clear hun
                  have HCU := Lib.hid (cutN_sl HSW.out hEg hEl)
                  have HCS : Hid (∀ c ∈ cutN cs k E, scN c) := Lib.hid fun c hc => HSC.out c (List.mem_of_mem_drop (List.mem_of_mem_take hc))
                  have HCL : Hid ((cutN cs k E).length ≤ 1000000) := Lib.hid (by rw [cutN_len hEg hEl]; omega)
                  have hm4 : ((k : Nat) : Int) ≤ ((E : Nat) : Int) := by omega
                  have hm5 : ((E : Nat) : Int) ≤ ((cap : Nat) : Int) := by omega
                  go_wp2_with fail
                  refine (rstr_any _ _ _ HCU.out HCL.out HCS.out).mono ?_
                  rintro e w3 ⟨rfl, hb3⟩
                  have hnm := ratom_any (mkB (encL (cutN cs k E))) w3 (by rw [mkB_size]; have h1 := encL_len (cutN cs k E); have h2 := HCL.out; omega)
                  rw [byt_mk (encL_by HCS.out)] at hnm
                  go_wp2_with fail
                  refine hnm.mono ?_
                  rintro e w4 ⟨lv, rfl, hlv, hb4⟩
                  have hb34 := hb3.trans (hb4.mono hb3.size)
                  have HBY := Lib.hid (HBX.out.trans (hb34.mono HBX.out.size))
                  have HOY := Lib.hid (HOW.out.below hb34)
                  have HLY : Hid (∀ p ∈ ps, Sl .u32 w4 p.2 p.1.d.r) := Lib.hid fun p hp => (HLM.out p hp).below hb34
                  clear hnm hb3 hb4 hb34
                  cases hnn : atmA (encL (cutN cs k E)) with
                  | none =>
                    have HERR := Lib.hid (HERRF.out k _ HWD.out hskp hkn (by rw [HWC2.out, hnn]; rfl))
                    rw [hnn] at hlv
                    obtain ⟨_, av, cv, rfl, _, _⟩ := hlv
                    replace HBX := HBY
                    clear hnn
                    have hsz9 := HBX.out.size
                    unfold dtV
                    go_wp2_with fail
                    refine bodyPost_ret (v := .tuple #[.slice none 0 0, .int .i64 (k : Nat), .int .i64 3]) (by simp [results, Tryz.results7, go_sem]) rfl ?_
                    exact RScanPost.mk (p := ((k : Nat) : Int)) (e := 3) (ps := []) HERR.out rfl (TkSlR.nil _ _) (by simp) (HBX.out.alloc hsz9 _)
                  | some D =>
                    rw [hnn] at hlv
                    have HLD := Lib.hid hlv
                    have HXW : Hid (wrdA cs k = some (leafW D k, E)) := Lib.hid (by rw [HWC2.out, hnn]; rfl)
                    have hkE := wrdA_gt HXW.out
                    obtain ⟨_, av, cv, rfl, _, _⟩ := hlv
                    obtain ⟨Dk, Dt, Dn, Dr⟩ := D
                    clear hnn
                    have hb5 := below1 w4 (.cells #[.int .i64 (Dk : Nat), .string (mkB Dt), .bool Dn, .slice av Dr.length cv, .slice none 0 0, .int .i64 (k : Nat)] 42)
                    have HBZ := Lib.hid (HBY.out.trans (hb5.mono HBY.out.size))
                    have HOZ := Lib.hid (HOY.out.below hb5)
                    have HLZ : Hid (∀ p ∈ ps, Sl .u32 (w4.alloc (.cells #[.int .i64 (Dk : Nat), .string (mkB Dt), .bool Dn, .slice av Dr.length cv, .slice none 0 0, .int .i64 (k : Nat)] 42)) p.2 p.1.d.r) := Lib.hid fun p hp => (HLY.out p hp).below hb5
                    have HLE := Lib.hid (HLD.out.below hb5)
                    have HSZ5 : Hid ((w4.alloc (.cells #[.int .i64 (Dk : Nat), .string (mkB Dt), .bool Dn, .slice av Dr.length cv, .slice none 0 0, .int .i64 (k : Nat)] 42)).heap.size = w4.heap.size + 1) := Lib.hid (by simp)
                    have hsz4 := HBY.out.size
                    replace hsz8 := HBZ.out.size
                    clear hb5
                    unfold dtV
                    go_wp2_with (at_builtin; go_loud (refine wpList_append_q rfl _ _ 29 rfl W0.heap.size 55 i0 (.agg #[.int .i64 0, .string ⟨#[]⟩, .int .i64 0, .string ⟨#[]⟩, .bool false, .slice none 0 0, .slice none 0 0, .int .i64 0, .int .i64 0]) 9 120 Tryz.underlying29 hi hz0 hz1 hz2 rfl (by decide) zeroTok _ ps.length (wcells ps) rfl (HOZ.out.alloc _) ⟨w4.heap.size + 1, 0, none⟩ 1 1 (wdL (leafW ⟨Dk, Dt, Dn, Dr⟩ k) (.slice av Dr.length cv)) rfl (by simp [wdL]) (fun j u h => by have h2 := new_cells (w4.alloc (.cells #[.int .i64 (Dk : Nat), .string (mkB Dt), .bool Dn, .slice av Dr.length cv, .slice none 0 0, .int .i64 (k : Nat)] 42)) _ 55 j u h; rw [HSZ5.out] at h2; exact h2) (by intro u hu; simp [wdL] at hu; rcases hu with rfl | rfl | rfl | rfl | rfl | rfl | rfl | rfl | rfl <;> rfl) (by decide) (by unfold maxLen; omega) (by omega) (by simp; omega) ?_); intro v8 w8 hown8 hgrow8 hu8)
                    go_roundw
                    case measure => simp only [intOf]; omega
                    case rel =>
                      exact rs_step HWD.out hskp hkn (HXW.out) E ⟨rfl, hEl⟩ (by go_num) HOZ.out HLZ.out (HLE.out) HBZ.out hsz8 hown8 hgrow8 hu8 hpk
          · have HSK : Hid (skp cs k = skp cs (k + 1)) := Lib.hid (skp_blank hkn (by
              intro h
              rw [h] at hbl
              exact absurd hbl (by decide)) hbl)
            clear hbl
            go_wp2_with fail
            go_roundw
            case measure => simp only [intOf]; omega
            case rel => exact ⟨k + 1, ps, by omega, by go_num, by rw [← HWD.out]; exact wds_skp HSK.out.symm, HOW.out, HLM.out, by omega, HBX.out⟩
        · have hki : ¬ ((k : Nat) : Int) < ((cs.length : Nat) : Int) := by omega
          have HEND := Lib.hid (HENDF.out k _ HWD.out (by omega))
          obtain ⟨oa, oc, rfl⟩ := HOW.out.slice
          go_wp2_with fail
          refine bodyPost_ret (v := .tuple #[.slice oa ps.length oc, .int .i64 0, .int .i64 0]) (by simp [results, Tryz.results7, go_sem]) rfl ?_
          exact RScanPost.mk (p := 0) (e := 0) HEND.out rfl ⟨HOW.out, HLM.out⟩ (by omega) HBX.out
end Go.Proofs.YtkocmjmmflphnaaGreatDoor
