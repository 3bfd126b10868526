/- A mark around a piece changes what its Symbols mean; to push two wraps means to push their join. No walk here. -/
import Derived.Test.YtbfcbicbeagjkaaGreatDoorSxPure
namespace Go.Proofs.YtbfcbicbeagjkaaGreatDoor
open Go.RowKit

theorem nil_pair {m s : List Int} (h : sndW m s = true) (hs : s = []) : m = [] := by
  have := sndW_zcs h
  subst hs
  exact List.eq_nil_of_length_eq_zero this.symm
theorem ne_pair {m s : List Int} (h : sndW m s = true) (hm : m ≠ []) : s ≠ [] := fun e => hm (nil_pair h e)
theorem endB_nil (s : List Int) : endB [] s = false := by unfold endB; rfl
theorem endB_rib {m s : List Int} (h : gz s (s.length - 1) ≠ 0) : endB m s = false := by
  unfold endB
  rw [decide_eq_false h, Bool.and_false, Bool.and_false]
theorem wj_assoc {ma sa mc sc my sy : List Int} (h1 : (wjA ma sa mc sc).2.2 = 0) (h2 : (wjA mc sc my sy).2.2 = 0) (hp : mc = [] ∨ 0 < gz mc 0) :
    wjA (wjA ma sa mc sc).1 (wjA ma sa mc sc).2.1 my sy = wjA ma sa (wjA mc sc my sy).1 (wjA mc sc my sy).2.1 := by
  obtain ⟨hA, hC, e1, e2⟩ := joinA_zero h1
  obtain ⟨_, hY, e3, e4⟩ := joinA_zero h2
  rw [joinA_ok (wjA_sound h1).1 hY, joinA_ok hA (wjA_sound h2).1]
  congr 1
  unfold marryA
  refine Prod.ext ?_ ?_
  all_goals simp only []; rw [e1, e2, e3, e4]
  all_goals
    have hb1 : (endB ma sa && begB mc sc) = false := by
      have : begB mc sc = false := by
        unfold begB
        rcases hp with rfl | hp
        · rfl
        · rw [decide_eq_false (show ¬ gz mc 0 = -1 by omega), Bool.false_and, Bool.and_false]
      rw [this, Bool.and_false]
    rw [hb1]
    generalize hq : (endB mc sc && begB my sy) = b2 at *
    simp only [show ∀ l, cutL false l = l from fun _ => rfl, show ∀ l, cutF false l = l from fun _ => rfl]
  all_goals
    by_cases hm : mc = []
    · subst hm
      rw [endB_nil, Bool.false_and] at hq
      subst hq
      by_cases hs : sc = []
      · subst hs
        simp [cutL, cutF]
      · have h0 : zc sc = 0 := sndW_zcs hC
        have hl := List.length_pos_iff.2 hs
        have k1 : endB (ma ++ []) (sa ++ sc) = false := endB_rib (by rw [gz_last_app hs]; exact (zc_pos hs h0).1)
        have k2 : begB (cutL false [] ++ cutF false my) (cutL false sc ++ cutF false sy) = false := by
          unfold begB
          have : gz (cutL false sc ++ cutF false sy) 0 = gz sc 0 := by
            show gz (sc ++ sy) 0 = _
            exact gz_app1 hl
          rw [this, decide_eq_false (zc_pos hs h0).2, Bool.and_false, Bool.and_false]
        rw [k1, k2, Bool.and_false, Bool.false_and]
        simp [cutL, cutF]
    · have hs := ne_pair hC hm
      have k1 : endB (ma ++ mc) (sa ++ sc) = endB mc sc := by
        unfold endB
        rw [gz_last_app hm, gz_last_app hs, decide_eq_true (List.length_pos_iff.2 hm), decide_eq_true (show 0 < (ma ++ mc).length by have := List.length_pos_iff.2 hm; rw [List.length_append]; omega)]
      have hp : 0 < gz mc 0 := hp.resolve_left hm
      have k2 : begB (cutL b2 mc ++ cutF b2 my) (cutL b2 sc ++ cutF b2 sy) = false := by
        unfold begB
        by_cases hz : (cutL b2 mc ++ cutF b2 my) = []
        · rw [hz]; rfl
        · have : ¬ gz (cutL b2 mc ++ cutF b2 my) 0 = -1 := by
            cases b2 with
            | false =>
              show ¬ gz (mc ++ my) 0 = -1
              rw [gz_app1 (List.length_pos_iff.2 hm)]; omega
            | true =>
              show ¬ gz (mc.dropLast ++ my.tail) 0 = -1
              by_cases hd : mc.dropLast = []
              · rw [hd, List.nil_append, gz_tail]
                have hlen : 0 < my.tail.length := by
                  apply List.length_pos_iff.2
                  intro e
                  apply hz
                  show mc.dropLast ++ my.tail = []
                  rw [hd, e]; rfl
                have := mksB_at (sndW_mks hY) (j := 1) (by rw [List.length_tail] at hlen; omega)
                unfold markB at this
                simp at this
                show ¬ gz my 1 = -1
                omega
              · have h2 := List.length_pos_iff.2 hd
                rw [gz_app1 h2, gz_init (by rw [List.length_dropLast] at h2; omega)]; omega
          rw [decide_eq_false this, Bool.false_and, Bool.and_false]
      rw [k1, k2, hq, Bool.and_false]
      first
        | rw [cutL_app hm, List.append_assoc]; rfl
        | rw [cutL_app hs, List.append_assoc]; rfl
theorem wj_pos {mb sb mx sx : List Int} (h : (wjA mb sb mx sx).2.2 = 0) (hb : mb ≠ []) (hp : 0 < gz mb 0) : (wjA mb sb mx sx).1 = [] ∨ 0 < gz (wjA mb sb mx sx).1 0 := by
  obtain ⟨_, hX, e1, _⟩ := joinA_zero h
  rw [e1]
  cases endB mb sb && begB mx sx with
  | false =>
    right
    show 0 < gz (mb ++ mx) 0
    rw [gz_app1 (List.length_pos_iff.2 hb)]; exact hp
  | true =>
    show mb.dropLast ++ mx.tail = [] ∨ 0 < gz (mb.dropLast ++ mx.tail) 0
    by_cases hd : mb.dropLast = []
    · rw [hd, List.nil_append]
      by_cases ht : mx.tail = []
      · exact .inl ht
      · right
        have hlen := List.length_pos_iff.2 ht
        rw [gz_tail]
        have := mksB_at (sndW_mks hX) (j := 1) (by rw [List.length_tail] at hlen; omega)
        unfold markB at this
        simp at this
        exact this
    · right
      have h2 := List.length_pos_iff.2 hd
      rw [gz_app1 h2, gz_init (by rw [List.length_dropLast] at h2; omega)]; exact hp
theorem reS_m (m s : List Int) (D : Sx) : (reS m s D).m = m := by cases D; rfl
theorem reS_s (m s : List Int) (D : Sx) : (reS m s D).s = s := by cases D; rfl
theorem reS_re (m s n t : List Int) (D : Sx) : reS m s (reS n t D) = reS m s D := by cases D; rfl
theorem psh_psh {ma sa mb sb : List Int} {D : Sx} (h1 : (wjA ma sa mb sb).2.2 = 0) (h2 : (wjA mb sb D.m D.s).2.2 = 0) (hb : 0 < gz mb 0) : pshS ma sa (pshS mb sb D) = pshS (wjA ma sa mb sb).1 (wjA ma sa mb sb).2.1 D := by
  unfold pshS
  rw [reS_m, reS_s, reS_re, ← wj_assoc h1 h2 (.inr hb)]
theorem lazy_open {ma sa mb sb : List Int} {D : Sx} (h1 : (wjA ma sa mb sb).2.2 = 0) (hbn : mb ≠ []) (hb : 0 < gz mb 0) (hP0 : (wjA mb sb D.m D.s).2.2 = 0) (hP : fltB [] [] (pshS mb sb D) = true)
    (hq0 : (wjA ma sa (opnS (pshS mb sb D)).m (opnS (pshS mb sb D)).s).2.2 = 0) (hq : fltB [] [] (pshS ma sa (opnS (pshS mb sb D))) = true) (hr0 : (wjA (wjA ma sa mb sb).1 (wjA ma sa mb sb).2.1 D.m D.s).2.2 = 0) (hr : fltB [] [] (pshS (wjA ma sa mb sb).1 (wjA ma sa mb sb).2.1 D) = true) :
    fltS [] [] (pshS ma sa (opnS (pshS mb sb D))) = fltS [] [] (pshS (wjA ma sa mb sb).1 (wjA ma sa mb sb).2.1 D) := by
  by_cases hk : 1 ≤ (pshS mb sb D).k ∧ (pshS mb sb D).k ≤ 3
  · obtain ⟨k, t, n, r, l, a, dm, ds⟩ := D
    have hk : 1 ≤ k ∧ k ≤ 3 := hk
    have eo : opnS (pshS mb sb (.mk k t n r l a dm ds)) = .mk k t n r (l.map (pshS (wjA mb sb dm ds).1 (wjA mb sb dm ds).2.1)) a [] [] := opnS_yes hk
    rw [eo] at hq0 hq ⊢
    have hP0 : (wjA mb sb dm ds).2.2 = 0 := hP0
    have hq0 : (wjA ma sa [] []).2.2 = 0 := hq0
    have hA := (wjA_sound hq0).2.1
    have eA := wjA_nil hA
    have hr0 : (wjA (wjA ma sa mb sb).1 (wjA ma sa mb sb).2.1 dm ds).2.2 = 0 := hr0
    have hP : fltB [] [] (.mk k t n r l a (wjA mb sb dm ds).1 (wjA mb sb dm ds).2.1) = true := hP
    have hq : fltB [] [] (.mk k t n r (l.map (pshS (wjA mb sb dm ds).1 (wjA mb sb dm ds).2.1)) a (wjA ma sa [] []).1 (wjA ma sa [] []).2.1) = true := hq
    have hr : fltB [] [] (.mk k t n r l a (wjA (wjA ma sa mb sb).1 (wjA ma sa mb sb).2.1 dm ds).1 (wjA (wjA ma sa mb sb).1 (wjA ma sa mb sb).2.1 dm ds).2.1) = true := hr
    show fltS [] [] (.mk k t n r (l.map (pshS (wjA mb sb dm ds).1 (wjA mb sb dm ds).2.1)) a (wjA ma sa [] []).1 (wjA ma sa [] []).2.1) = fltS [] [] (.mk k t n r l a (wjA (wjA ma sa mb sb).1 (wjA ma sa mb sb).2.1 dm ds).1 (wjA (wjA ma sa mb sb).1 (wjA ma sa mb sb).2.1 dm ds).2.1)
    rw [eA] at hq ⊢
    obtain ⟨hq1, hql⟩ := fltB_iff.1 hq
    obtain ⟨_, hrl⟩ := fltB_iff.1 hr
    obtain ⟨_, hPl⟩ := fltB_iff.1 hP
    rw [wjA_self hr0] at hrl
    rw [wjA_self hP0] at hPl
    have eA2 := wjA_nl hA
    rw [eA2] at hql
    have hql : ∀ x ∈ l.map (pshS (wjA mb sb dm ds).1 (wjA mb sb dm ds).2.1), fltB ma sa x = true := hql
    have hC := wj_pos hP0 hbn hb
    have eR := wj_assoc (my := dm) (sy := ds) h1 hP0 (.inr hb)
    have h4 : (wjA ma sa (wjA mb sb dm ds).1 (wjA mb sb dm ds).2.1).2.2 = 0 := eR ▸ hr0
    rw [fltS_mk, fltS_mk, eA2, wjA_self hr0, List.map_map]
    have hk4 : ¬ k = 4 := by omega
    simp only [if_neg hk4]
    congr 1
    refine List.map_congr_left fun y hy => ?_
    show fltS ma sa (pshS (wjA mb sb dm ds).1 (wjA mb sb dm ds).2.1 y) = _
    have hy1 := fltB_err (hPl y hy)
    rw [eR]
    exact (flt_ctx (wj_assoc h4 hy1 hC).symm).2
  · have e : opnS (pshS mb sb D) = pshS mb sb D := opnS_no hk
    rw [e] at hq0 ⊢
    rw [psh_psh h1 hP0 hb]
end Go.Proofs.YtbfcbicbeagjkaaGreatDoor
