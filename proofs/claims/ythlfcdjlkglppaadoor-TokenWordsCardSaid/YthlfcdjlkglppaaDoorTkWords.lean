/- The law TokenWords. -/
import Derived.Test.YthlfcdjlkglppaaDoorTkWChars
namespace Go.Proofs.YthlfcdjlkglppaaDoor
open Go.RowKit

theorem mkB_app (a b : List Nat) : mkB (a ++ b) = mkB a ++ mkB b := by unfold mkB; apply ByteArray.ext; simp
def sgCells : Array Value := (sgs.map fun l => Value.string (mkB l)).toArray
def kdCells : Array Value := (kds.map fun (k : Nat) => Value.int .i64 (k : Int)).toArray
theorem sgCells_at {k : Nat} (h : k < 17) : sgCells[k]? = some (.string (mkB (sg k))) := by
  unfold sgCells sg
  rw [List.getElem?_toArray, List.getElem?_map, List.getD_eq_getElem?_getD, List.getElem?_eq_getElem (by simp [sgs]; omega)]
  rfl
theorem kdCells_at {k : Nat} (h : k < 17) : kdCells[k]? = some (.int .i64 (kd k : Nat)) := by
  unfold kdCells kd
  rw [List.getElem?_toArray, List.getElem?_map, List.getD_eq_getElem?_getD, List.getElem?_eq_getElem (by simp [kds]; omega)]
  rfl

theorem txt17_len : ∀ l : List Nat, (∀ k ∈ l, k < 17) → (txt17 l).length ≤ 6 * l.length := by
  intro l
  induction l with
  | nil => intro _; simp [txt17]
  | cons k l ih =>
    intro h
    have h1 := (sg_facts ⟨k, h k (by simp)⟩).2.1
    have h2 := ih fun a ha => h a (by simp [ha])
    rw [txt17_cons]
    simp only [List.length_append, List.length_cons] at *
    omega
theorem txt17_by {l : List Nat} (h : ∀ k ∈ l, k < 17) : ∀ c ∈ txt17 l, c < 128 := by
  intro c hc
  obtain ⟨k, hk, hc⟩ := List.mem_flatMap.1 hc
  rcases List.mem_append.1 hc with hc | hc
  · have := List.all_eq_true.1 (sg_facts ⟨k, h k hk⟩).2.2.2.2 c hc
    simpa using this
  · simp at hc; omega
theorem fits_len : ∀ (qs : List Nat) (p : Nat) (ws : List Wd), Fits qs p ws → ws.length = qs.length
  | [], _, [], _ => rfl
  | [], _, _ :: _, h => by cases h
  | _ :: _, _, [], h => by cases h
  | _ :: qs, _, _ :: ws, h => by simp [fits_len qs _ ws h.2.2]
theorem fits_at : ∀ (qs : List Nat) (p : Nat) (ws : List Wd), Fits qs p ws → ∀ k x, ws[k]? = some x → x.kind = kd (limb qs k) ∧ x.pl = p + (txt17 (qs.take k)).length
  | [], _, [], _, k, x, hx => by simp at hx
  | [], _, _ :: _, h, _, _, _ => by cases h
  | _ :: _, _, [], h, _, _, _ => by cases h
  | q :: qs, p, y :: ws, h, 0, x, hx => by
    simp at hx
    subst hx
    exact ⟨h.1, by rw [h.2.1]; simp [txt17]⟩
  | q :: qs, p, y :: ws, h, k + 1, x, hx => by
    have h2 := fits_at qs _ ws h.2.2 k x (by simpa using hx)
    refine ⟨h2.1, ?_⟩
    rw [h2.2, List.take_succ_cons, txt17_cons]
    simp
    omega
/-- The text's characters are its bytes. -/
theorem txt17_chars {l : List Nat} (h : ∀ k ∈ l, k < 17) : (chA (byt (mkB (txt17 l)))).1 = txt17 l := by
  have hb := txt17_by h
  have hall : (txt17 l).all (fun x => decide (x < 128)) = true := List.all_eq_true.2 fun c hc => by simpa using hb c hc
  have he : ∀ l : List Nat, (∀ c ∈ l, c < 128) → encL l = l := by
    intro l
    induction l with
    | nil => intro _; rfl
    | cons c l ih =>
      intro h
      have h1 : encN c = [c] := by unfold encN; rw [if_pos (by have := h c (by simp); omega)]
      show encN c ++ encL l = _
      rw [h1, ih fun a ha => h a (by simp [ha])]
      rfl
  rw [byt_mk (by_of hall)]
  have hc := chars_enc (txt17 l) (sc_of hall)
  rw [he _ hb] at hc
  rw [chA_ok hc]

set_option maxRecDepth 100000 in
set_option maxHeartbeats 4000000 in
theorem words17_any (ao : Option Addr) (cap : Nat) (ps : List Nat) (w : World) (hs : Sl .u8 w (.slice ao ps.length cap) ps) (hby : By ps) (ht : Tabs2 w) (hwd : Words w) (hmk : Marks w) :
    Calls Tryd.prog 7 #[.slice ao ps.length cap] w (TruePost w) := by
  have HT := Lib.hid ht; clear ht
  have HW := Lib.hid hwd; clear hwd
  have HM := Lib.hid hmk; clear hmk
  have HS := Lib.hid hs; clear hs
  have HY := Lib.hid hby; clear hby
  rcases Nat.lt_or_ge 200 ps.length with h2 | h2
  · have hq : (200 : Int) < ((ps.length : Nat) : Int) := by omega
    go_enter Tryd.func7, Tryd.ntmps7
    go_wp2_with fail
    have hb2 : Below w.heap.size w ((w.alloc (.cells sgCells 9)).alloc (.cells kdCells 3)) := below2 w _ _
    refine (tanswers_any _ (HT.out.below hb2) (HW.out.below hb2) (HM.out.below hb2)).mono ?_
    rintro e w1 ⟨rfl, hb⟩
    have HB := Lib.hid (hb2.trans (hb.mono hb2.size))
    clear hb hb2
    go_wp2_with fail
    go_ret
    exact ⟨rfl, HB.out⟩
  · have hq : ¬ (200 : Int) < ((ps.length : Nat) : Int) := by omega
    go_enter Tryd.func7, Tryd.ntmps7
    go_wp2_with fail
    have hsz : w.heap.size < w.heap.size + 1 := by omega
    generalize hW2 : World.alloc (World.alloc w _) _ = W2
    have hW3 : (w.alloc (.cells sgCells 9)).alloc (.cells kdCells 3) = W2 := hW2
    clear hW2
    have hb2 : Below w.heap.size w W2 := by rw [← hW3]; exact below2 w _ _
    have hr0 : W2.heap[w.heap.size]? = some (.cells sgCells 9 (0, 0)) := by
      rw [← hW3, Below.heap_alloc _ _ _ (by simp)]; exact heap_alloc_new w _
    have hr1 : W2.heap[w.heap.size + 1]? = some (.cells kdCells 3 (0, 0)) := by
      rw [← hW3]
      have := heap_alloc_new (w.alloc (.cells sgCells 9)) (.cells kdCells 3)
      simpa using this
    have HLT : Hid (w.heap.size + 1 < W2.heap.size) := Lib.hid (Array.getElem?_eq_some_iff.1 hr1).1
    have HB2 := Lib.hid hb2
    have HSG : Hid (∀ k, k < 17 → W2.cell? ⟨w.heap.size, k, none⟩ = some (.string (mkB (sg k)))) := Lib.hid fun k hk => by rw [cell_of_row W2 _ _ _ _ (0, 0) hr0]; exact sgCells_at hk
    have HKD : Hid (∀ k, k < 17 → W2.cell? ⟨w.heap.size + 1, k, none⟩ = some (.int .i64 (kd k : Nat))) := Lib.hid fun k hk => by rw [cell_of_row W2 _ _ _ _ (0, 0) hr1]; exact kdCells_at hk
    have HSW := Lib.hid (HS.out.below hb2)
    clear hb2 hr0 hr1 hW3 hsz HS
    obtain ⟨qs, hqs⟩ : ∃ qs, qs = ps.map (· % 17) := ⟨_, rfl⟩
    have hql : qs.length = ps.length := by rw [hqs]; simp
    have HQ : Hid (∀ k ∈ qs, k < 17) := Lib.hid fun k hk => by rw [hqs] at hk; obtain ⟨a, _, rfl⟩ := List.mem_map.1 hk; omega
    have HQA : Hid (∀ k, k < ps.length → limb qs k = limb ps k % 17) := Lib.hid fun k hk => by
      unfold limb
      rw [hqs, List.getD_eq_getElem?_getD, List.getElem?_map, List.getD_eq_getElem?_getD, List.getElem?_eq_getElem hk]; rfl
    clear hqs
    go_loop [5, 6] (fun v i => ∃ k : Nat, k ≤ ps.length ∧ v = .string (mkB (txt17 (qs.take k))) ∧ i = .int .i64 (k : Nat)) (fun _ i => ps.length - (intOf i).toNat)
    case atStart => exact ⟨0, by omega, rfl, rfl⟩
    case round =>
      obtain ⟨k, hk, rfl, rfl⟩ := hrel
      by_cases hkn : k < ps.length
      · have hki : ((k : Nat) : Int) < ((ps.length : Nat) : Int) := by omega
        obtain ⟨b, off, rfl, hb, hc⟩ : ∃ b off, ao = some ⟨b, off, none⟩ ∧ b < W2.heap.size ∧ ∀ j, j < ps.length → W2.cell? ⟨b, off + j, none⟩ = some (.int .u8 ((limb ps j : Nat) : Int)) := by
          obtain ⟨_, a', c', hv, _, h⟩ := HSW.out
          simp only [Value.slice.injEq, true_and] at hv
          obtain ⟨rfl, rfl⟩ := hv
          rcases h with ⟨h, _⟩ | ⟨b, off, h1, h2, h3⟩
          · subst h; simp at hkn
          · exact ⟨b, off, h1, h2, h3⟩
        have hcell := hc k hkn
        have hm : limb qs k < 17 := HQ.out _ (by unfold limb; rw [List.getD_eq_getElem?_getD, List.getElem?_eq_getElem (by omega)]; exact List.getElem_mem _)
        have hsgc := HSG.out _ hm
        have hmi : ((limb ps k : Nat) : Int) % 17 = ((limb qs k : Nat) : Int) := by rw [HQA.out k hkn]; omega
        have hlt := HY.out k
        clear hc
        have hmI : ((limb qs k : Nat) : Int) < 17 := by omega
        have hmN : ¬ ((limb qs k : Nat) : Int) < 0 := by omega
        have hS0 : (mkB (txt17 (qs.take k))).size + (mkB (sg (limb qs k))).size ≤ 10000 := by
          rw [mkB_size, mkB_size]
          have h1 := txt17_len (qs.take k) (fun a ha => HQ.out a (List.mem_of_mem_take ha))
          have h3 := (sg_facts ⟨limb qs k, hm⟩).2.1
          simp only [List.length_take] at h1 h3
          omega
        have hS1 : ¬ 9223372036854775807 < (mkB (txt17 (qs.take k))).size + (mkB (sg (limb qs k))).size := by omega
        have hS2 : ¬ 9223372036854775807 < (mkB (txt17 (qs.take k))).size + (mkB (sg (limb qs k))).size + 1 := by omega
        clear hS0
        go_wp2_with fail
        go_round
        case rel =>
          refine ⟨k + 1, by omega, ?_, by go_num⟩
          have e : qs.take (k + 1) = qs.take k ++ [limb qs k] := by
            rw [List.take_add_one, List.getElem?_eq_getElem (by omega)]
            unfold limb
            rw [List.getD_eq_getElem?_getD, List.getElem?_eq_getElem (by omega)]
            rfl
          rw [e, txt17_snoc, mkB_app, mkB_app, ByteArray.append_assoc]
          rfl
        case measure => simp only [intOf]; omega
      · obtain rfl : k = ps.length := by omega
        rw [List.take_of_length_le (by omega)]
        go_wp2_with fail
        have hln : (txt17 qs).length ≤ 1200 := by have := txt17_len qs HQ.out; omega
        refine (lchars_any (mkB (txt17 qs)) _ (by rw [mkB_size]; omega)).mono ?_
        rintro e w3 ⟨v, rfl, hv, hb⟩
        rw [txt17_chars HQ.out] at hv
        have HB3 := Lib.hid (HB2.out.trans (hb.mono HB2.out.size))
        have HSW3 := Lib.hid (HSW.out.below hb)
        have HSG3 : Hid (Below W2.heap.size W2 w3) := Lib.hid hb
        have hsv := slv_nat hv
        clear hb hv
        go_wp2_with fail
        obtain ⟨ws, hsc, hfit⟩ := scan_signs qs HQ.out
        refine (scan_any _ _ _ hsv (by rw [List.length_map]; omega) (HT.out.below HB3.out) (HW.out.below HB3.out) (HM.out.below HB3.out)).mono ?_
        rintro e w4 ⟨v4, ps4, rfl, hps, htk, _, hb⟩
        rw [hsc] at hps ⊢
        have HB4 := Lib.hid (HB3.out.trans (hb.mono HB3.out.size))
        have H24 := Lib.hid (HSG3.out.trans (hb.mono HSG3.out.size))
        have HSW4 := Lib.hid (HSW3.out.below hb)
        have HTK := Lib.hid htk
        have HFIT := Lib.hid hfit
        have HPS := Lib.hid hps
        clear hsv hb htk hfit hps hsc
        have hl4 : ps4.length = ps.length := by
          have h1 := fits_len _ _ _ HFIT.out
          have h3 := congrArg List.length HPS.out
          simp only [List.length_map] at h3
          omega
        obtain ⟨ao4, cap4, hv4⟩ : ∃ a c, v4 = .slice a ps4.length c := by
          rcases HTK.out.own.2 with ⟨h1, h3⟩ | ⟨g, cap, cur, h1, _⟩
          · exact ⟨none, 0, by rw [h1, h3]⟩
          · exact ⟨_, _, h1⟩
        subst hv4
        rw [hl4]
        go_wp2_with fail
        refine (tanswers_any _ (HT.out.below HB4.out) (HW.out.below HB4.out) (HM.out.below HB4.out)).mono ?_
        rintro e w5 ⟨rfl, hb⟩
        have HB5 := Lib.hid (HB4.out.trans (hb.mono HB4.out.size))
        have H25 := Lib.hid (H24.out.trans (hb.mono H24.out.size))
        have HSW5 := Lib.hid (HSW4.out.below hb)
        have HTK5 := Lib.hid (HTK.out.below hb)
        clear hb
        go_wp2_with fail
        go_loopw [10, 11] (fun a i wr => ∃ k : Nat, k ≤ ps.length ∧ i = .int .i64 (k : Nat) ∧ a = .int .i64 ((txt17 (qs.take k)).length : Nat) ∧ Below w5.heap.size w5 wr) (fun _ i _ => ps.length - (intOf i).toNat)
        case atStart => exact ⟨0, by omega, rfl, rfl, Below.refl _ _⟩
        case round =>
          obtain ⟨k, hk, rfl, rfl, hbel⟩ := hrel
          have HSWr := Lib.hid (HSW5.out.below hbel)
          have HTKr := Lib.hid (HTK5.out.below hbel)
          have H2r := Lib.hid (H25.out.trans (hbel.mono H25.out.size))
          have HBr := Lib.hid hbel
          clear hbel
          by_cases hkn : k < ps.length
          · have hki : ((k : Nat) : Int) < ((ps.length : Nat) : Int) := by omega
            obtain ⟨b, off, rfl, hc⟩ : ∃ b off, ao = some ⟨b, off, none⟩ ∧ ∀ j, j < ps.length → wr.cell? ⟨b, off + j, none⟩ = some (.int .u8 ((limb ps j : Nat) : Int)) := by
              obtain ⟨_, a', c', hv, _, h⟩ := HSWr.out
              simp only [Value.slice.injEq, true_and] at hv
              obtain ⟨rfl, rfl⟩ := hv
              rcases h with ⟨h, _⟩ | ⟨b, off, h1, h2, h3⟩
              · subst h; simp at hkn
              · exact ⟨b, off, h1, h3⟩
            have hcell := hc k hkn
            have hm : limb qs k < 17 := HQ.out _ (by unfold limb; rw [List.getD_eq_getElem?_getD, List.getElem?_eq_getElem (by omega)]; exact List.getElem_mem _)
            have hsgc := (H2r.out.cell (p := ⟨w.heap.size, limb qs k, none⟩) (by have := HLT.out; show w.heap.size < _; omega)).trans (HSG.out _ hm)
            have hkdc := (H2r.out.cell (p := ⟨w.heap.size + 1, limb qs k, none⟩) HLT.out).trans (HKD.out _ hm)
            have hmi : ((limb ps k : Nat) : Int) % 17 = ((limb qs k : Nat) : Int) := by rw [HQA.out k hkn]; omega
            have hlt := HY.out k
            have hmI : ((limb qs k : Nat) : Int) < 17 := by omega
            have hmN : ¬ ((limb qs k : Nat) : Int) < 0 := by omega
            obtain ⟨g, c4, hv4, hcap4, _, hcells⟩ := HTKr.out.at' (j := k) (by omega)
            simp only [Value.slice.injEq, true_and] at hv4
            obtain ⟨rfl, rfl⟩ := hv4
            have hx := fits_at _ _ _ HFIT.out k (ps4[k]'(by omega)).1 (by rw [← HPS.out, List.getElem?_map, List.getElem?_eq_getElem (by omega)]; rfl)
            have hc0 := hcells 0 (.int .i64 ((ps4[k]'(by omega)).1.kind : Nat)) rfl
            have hc8 := hcells 8 (.int .i64 ((ps4[k]'(by omega)).1.pl : Nat)) rfl
            rw [hx.1] at hc0
            rw [hx.2, Nat.zero_add] at hc8
            have hln2 := txt17_len (qs.take k) (fun a ha => HQ.out a (List.mem_of_mem_take ha))
            have hln3 : (qs.take k).length ≤ 200 := by simp; omega
            have hsl := (sg_facts ⟨limb qs k, hm⟩).2.1
            have hszm : (mkB (sg (limb qs k))).size = (sg (limb qs k)).length := mkB_size _
            simp only at hsl
            clear hcells hx hc
            go_wp2_with fail
            have hc0' : wr.cell? ⟨g, k * 9, none⟩ = some (.int .i64 (kd (limb qs k) : Nat)) := hc0
            clear hc0
            go_region
            go_wp2_with fail
            go_roundw
            case rel =>
              refine ⟨k + 1, by omega, by go_num, ?_, HBr.out.drew⟩
              have e : qs.take (k + 1) = qs.take k ++ [limb qs k] := by
                rw [List.take_add_one, List.getElem?_eq_getElem (by omega)]
                unfold limb
                rw [List.getD_eq_getElem?_getD, List.getElem?_eq_getElem (by omega)]
                rfl
              have el : (txt17 (qs.take (k + 1))).length = (txt17 (qs.take k)).length + (sg (limb qs k)).length + 1 := by rw [e, txt17_snoc]; simp only [List.length_append, List.length_cons, List.length_nil]; omega
              rw [el]
              go_num
            case measure => simp only [intOf]; omega
          · obtain rfl : k = ps.length := by omega
            go_wp2_with fail
            go_ret
            exact ⟨rfl, HB5.out.trans (HBr.out.mono HB5.out.size)⟩
theorem words17_v (v : Value) (ps : List Nat) (w : World) (hs : Sl .u8 w v ps) (hby : By ps) (ht : Tabs2 w) (hwd : Words w) (hmk : Marks w) :
    Calls Tryd.prog 7 #[v] w (TruePost w) := by
  have hs' := hs
  obtain ⟨_, ao, cap, rfl, _⟩ := hs'
  exact words17_any ao cap ps w hs hby ht hwd hmk
end Go.Proofs.YthlfcdjlkglppaaDoor
