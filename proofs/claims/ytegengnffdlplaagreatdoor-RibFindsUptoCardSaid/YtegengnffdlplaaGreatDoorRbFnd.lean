/- Identifiers that are built: which they are. No walk here. | Find; identifiers that are built: which they are; law11's answers and id. -/
import Derived.Test.YtegengnffdlplaaGreatDoorSxJn
import Derived.Test.YtegengnffdlplaaGreatDoorTkAns
import Derived.Test.YtegengnffdlplaaGreatDoorRbEnt
namespace Go.Proofs.YtegengnffdlplaaGreatDoor
open Go.RowKit

theorem wjA_nilL {m s : List Int} (h : sndW m s = true) : wjA [] [] m s = (m, s, 0) := by
  rw [joinA_ok sndW_nil h]
  have e : endB [] [] = false := by decide
  rw [e, Bool.false_and]
  have e2 : marryA false [] [] m s = (m, s) := by unfold marryA cutL cutF; simp
  rw [e2]
  refine closeA_ok ?_ (sndW_snd h)
  unfold sndW at h
  rw [Bool.and_eq_true] at h
  simpa using h.1
theorem sndX_wrap {D : Sx} (h : sndX D = true) : sndW D.m D.s = true := by
  unfold sndX at h
  simp only [Bool.and_eq_true] at h
  have h := h.2.2
  obtain ⟨k, t, n, r, l, a, dm, ds⟩ := D
  rw [jnsB_mk, Bool.and_eq_true] at h
  have h := of_decide_eq_true h.1
  rw [innA_eq sndW_nil] at h
  exact (wjA_sound h).2.2
theorem sndW_zc {m s : List Int} (h : sndW m s = true) : zc s = m.length := by
  have h := sndW_snd h
  unfold sndS at h
  simp only [Bool.and_eq_true, decide_eq_true_iff] at h
  exact h.2.2
theorem idB_wrap {D : Sx} (h : idB D = true) : sndW D.m D.s = true := by
  unfold idB at h
  rw [Bool.and_eq_true] at h
  exact sndX_wrap h.2
/-- A text of one letter. -/
theorem symbA_let {c : Nat} (h : 97 ≤ c ∧ c ≤ 122) : symbA [c] = true := by
  have hlow : encL [c] = [c] := by
    have h1 : encN c = [c] := by unfold encN; rw [if_pos (by omega)]
    show encN c ++ encL [] = _
    rw [h1]; rfl
  have hch : chars [c] 0 = ([c], none) := by
    have := chars_enc [c] fun x hx => by rw [List.mem_singleton] at hx; unfold scN; omega
    rwa [hlow] at this
  have hy : symA [c] = true := by
    refine symA_yes (by simp) (by simp; omega) (by simp) (by simp [limb]; omega) ?_ (by rw [hch]) ?_
    · unfold numeA digN sgnN
      simp [limb]
      omega
    · rw [hch]
      have : ¬ (enN c = true) := by unfold enN enB; simp; omega
      simpa using this
  unfold symbA
  rw [atmA_symb (by intro i; match i with | 0 => simp [limb]; omega | i + 1 => simp [limb]) hy]
  rfl
theorem idB_leaf {t : ByteArray} {c : Nat} (ht : byt t = [c]) (hc : 97 ≤ c ∧ c ≤ 122) {a : Int} {m s : List Int} (hw : sndW m s = true) : idB (.mk 4 t false [] [] a m s) = true := by
  have hs : sndD (dtm (.mk 4 t false [] [] a m s)) = true := by
    rw [dtm_mk, ht]
    unfold sndD
    rw [okD_leaf (by omega) (by omega), wrtA_sym, symbA_let hc]
    have : (Dm.mk 4 [c] false [] (List.map dtm []) a).sz = 1 := by rw [Dm.sz_eq]; rfl
    rw [this]
    rfl
  have ho : othB (dtm (.mk 4 t false [] [] a m s)) = false := by
    rw [dtm_mk]
    exact othB_no (by decide) fun j h => by simp at h
  have hj : jnsB [] [] (.mk 4 t false [] [] a m s) = true := by
    rw [jnsB_mk, innA_eq sndW_nil, wjA_nilL hw]
    rfl
  unfold idB sndX
  rw [hs, ho, hj]
  rfl
/-- An identifier in memory. -/
theorem sl_leaf {w : World} {t : ByteArray} {a : Int} {mv sv : Value} {m s : List Int} (ht : t.size ≤ maxLen) (hm : Iz w mv m) (hs : Iz w sv s) : SLay w (.mk 4 t false [] [] a m s) [.int .i64 4, .string t, .bool false, .slice none 0 0, .slice none 0 0, .int .i64 a, mv, sv] :=
  .mk (us := []) ht (fun _ h => by cases h) (row_nil8 _ _) (row_nil8 _ _) hm hs fun i hi => by simp at hi
theorem sm_leaf {t : ByteArray} {a : Int} {m s : List Int} (ht : t.size ≤ 1100000) (hm : m.length ≤ 1100000) (hs : s.length ≤ 1100000) : SmS 1100000 (.mk 4 t false [] [] a m s) := .mk ht (by simp) (by simp) hm hs fun i hi => by simp at hi
def aB : ByteArray := ⟨#[97]⟩
theorem aB_byt : byt aB = [97] := by decide
theorem sndW_one {b : Int} (h : 1 ≤ b) : sndW [] [b] = true := by
  unfold sndW sndS lrgB mksB sbsB zc
  simp
  omega
end Go.Proofs.YtegengnffdlplaaGreatDoor
namespace Go.Proofs.YtegengnffdlplaaGreatDoor
open Go.RowKit

noncomputable def fndE (D : Sx) : Int := if idB D then 0 else 1
/-- What Find answers of ribs that are there. -/
noncomputable def fndB (tk : Ek → Option Int) (D : Sx) : Int := if idB D then fndL (atE tk D.t) D.s D.m else 0

set_option maxRecDepth 100000 in
set_option maxHeartbeats 4000000 in
/-- Find. -/
theorem rfind_any (w : World) (g : Nat) (ob : Option Nat) (R G : Nat) (tk : Ek → Option Int) (h : RbW w g ob R G tk) (D : Sx) (us : List Value) (hd : SLay w D us) (hsm : SmS 1100000 D) (ht : Tabs w) :
    Calls Tryz.prog 9 #[.pointer (some ⟨g, 0, none⟩), .agg us.toArray] w fun e w' => e = .returned (.tuple #[.int .i64 (fndB tk D), .int .i64 (fndE D)]) ∧ Below w.heap.size w w' := by
  have HD := Lib.hid hd
  have HSM := Lib.hid hsm
  have HT := Lib.hid ht
  obtain ⟨kx, tx, nx, xo, xn, xc, yo, yn, yc, ax, po, pn, pc, qo, qn, qc, rfl⟩ := sx_shapes hd
  clear hd hsm ht
  have hb1 := below1 w (.cells #[.int .i64 kx, .string tx, .bool nx, .slice xo xn xc, .slice yo yn yc, .int .i64 ax, .slice po pn pc, .slice qo qn qc] 29)
  have hn1 := heap_alloc_new w (.cells #[.int .i64 kx, .string tx, .bool nx, .slice xo xn xc, .slice yo yn yc, .int .i64 ax, .slice po pn pc, .slice qo qn qc] 29)
  show Calls Tryz.prog 9 #[.pointer (some ⟨g, 0, none⟩), .agg #[.int .i64 kx, .string tx, .bool nx, .slice xo xn xc, .slice yo yn yc, .int .i64 ax, .slice po pn pc, .slice qo qn qc]] w _
  go_enter Tryz.func9, Tryz.ntmps9
  go_upto_region 1 with fail
  generalize w.alloc (.cells #[.int .i64 kx, .string tx, .bool nx, .slice xo xn xc, .slice yo yn yc, .int .i64 ax, .slice po pn pc, .slice qo qn qc] 29) = w1 at *
  have HB1 := Lib.hid hb1
  have HN1 := Lib.hid hn1
  have HR1 := Lib.hid (h.below hb1)
  clear hb1 hn1 h
  obtain ⟨c0, c1, c2, c3, c4, c5, c6, c7⟩ := rowS8 HN1.out
  go_wp2_with fail
  refine (ident_any D _ w1 (HD.out.keep HB1.out) HSM.out (HT.out.below HB1.out (Nat.le_refl _))).mono ?_
  rintro e w2 ⟨rfl, hb2⟩
  have HB2 := Lib.hid (HB1.out.trans (hb2.mono HB1.out.size))
  have HN2 := Lib.hid ((hb2.block _ (Array.getElem?_eq_some_iff.1 HN1.out).1).trans HN1.out)
  have HR2 := Lib.hid (HR1.out.below hb2)
  clear hb2 c0 c1 c2 c3 c4 c5 c6 c7
  cases hi : idB D with
  | false =>
    have HV : Hid (fndB tk D = 0 ∧ fndE D = 1) := Lib.hid (by unfold fndB fndE; rw [hi]; exact ⟨rfl, rfl⟩)
    clear hi
    go_wp2_with fail
    refine bodyPost_ret (v := .tuple #[.int .i64 0, .int .i64 1]) (by simp [results, Tryz.results9, go_sem]) rfl ?_
    exact ⟨by rw [HV.out.1, HV.out.2], HB2.out⟩
  | true =>
    have hw := idB_wrap hi
    have HW := Lib.hid (And.intro (sndW_zc hw) (sndW_len hw))
    have HV : Hid (fndB tk D = fndL (atE tk D.t) D.s D.m ∧ fndE D = 0) := Lib.hid (by unfold fndB fndE; rw [hi]; exact ⟨rfl, rfl⟩)
    clear hi hw
    obtain ⟨c0, c1, c2, c3, c4, c5, c6, c7⟩ := rowS8 HN2.out
    go_wp2_with fail
    refine (seek_any w2 g ob R G tk HR2.out D _ (HD.out.keep HB2.out) (by have := HW.out.1; omega) (by have := HW.out.2; omega) (by have := HW.out.2; omega)).mono ?_
    rintro e w3 ⟨rfl, hb3⟩
    have HB3 := Lib.hid (HB2.out.trans (hb3.mono HB2.out.size))
    clear hb3 c0 c1 c2 c3 c4 c5 c6 c7
    obtain ⟨q, HQ⟩ : ∃ q, Hid (fndL (atE tk D.t) D.s D.m = q) := ⟨_, Lib.hid rfl⟩
    rw [HQ.out]
    go_wp2_with fail
    refine bodyPost_ret (v := .tuple #[.int .i64 q, .int .i64 0]) (by simp [results, Tryz.results9, go_sem]) rfl ?_
    exact ⟨by rw [HV.out.1, HV.out.2, HQ.out], HB3.out⟩

theorem ob_eq {b o n c k : Nat} (h : (Value.slice (some ⟨b, o, none⟩) n c).ownBlock = some k) : b = k := by
  simp [Value.ownBlock] at h
  exact h
theorem fnd_b {at' : Int → List Int → Int} {b : Int} (h : b ≠ 0) {ss m : List Int} : fndL at' (b :: ss) m = if at' b m ≠ 0 then at' b m else fndL at' ss m := by
  conv => lhs; unfold fndL
  rw [if_neg h]
theorem Rg.nil : Rg [] := fun _ h => by cases h
theorem atE_put {tk : Ek → Option Int} {b b' c : Int} {t t' : ByteArray} {m m' : List Int} (hm : Rg m) (hm' : Rg m') : atE (putE tk (b', t', wrt m') c) t b m = if b = b' ∧ t = t' ∧ m = m' then c else atE tk t b m := by
  unfold atE putE
  by_cases h : b = b' ∧ t = t' ∧ m = m'
  · obtain ⟨rfl, rfl, rfl⟩ := h
    rw [if_pos rfl, if_pos ⟨rfl, rfl, rfl⟩]
    rfl
  · rw [if_neg h, if_neg fun e => h ?_]
    injection e with e1 e2
    injection e2 with e2 e3
    exact ⟨e1, e2, wrt_inj hm hm' e3⟩
theorem PutPost.ok {g : Nat} {ob : Option Nat} {R G : Nat} {tk : Ek → Option Int} {ok : Bool} {p : Ek} {c : Int} {w w' : World} {e : Ending} (h : PutPost g ob R G tk ok p c w e w') (hok : ok = true) (hz : (tk p).getD 0 = 0) :
    ∃ ob', e = .returned (.int .i64 0) ∧ RbW w' g ob' R G (putE tk p c) ∧ RK g ob w w' ∧ (∀ b, ob' = some b → ob = some b ∨ w.heap.size ≤ b) := by
  obtain ⟨ob', h1, h2, h3, h4⟩ := h
  rw [hok, if_pos rfl, if_pos hz] at h1 h2
  exact ⟨ob', h1, h2, h3, h4⟩
/-- Ribs that were made behind a world. -/
structure Rz (w0 W : World) (g R G : Nat) (tk : Ek → Option Int) : Prop where
  ex : ∃ ob, RbW W g ob R G tk ∧ ∀ b, ob = some b → w0.heap.size ≤ b
  bel : Below w0.heap.size w0 W
  le : w0.heap.size ≤ g
theorem Rz.below {w0 W W' : World} {g R G : Nat} {tk : Ek → Option Int} (h : Rz w0 W g R G tk) (hb : Below W.heap.size W W') : Rz w0 W' g R G tk := by
  obtain ⟨ob, h1, h2⟩ := h.ex
  exact ⟨⟨ob, h1.below hb, h2⟩, h.bel.trans (hb.mono h.bel.size), h.le⟩
set_option maxRecDepth 100000 in
set_option maxHeartbeats 4000000 in
/-- law11's answers. -/
theorem answers11_any (w : World) (ht : Tabs w) : Calls Tryz.prog 7 #[] w fun e w' => e = .returned (.bool true) ∧ Below w.heap.size w w' := by
  have HT := Lib.hid ht
  clear ht
  go_enter Tryz.func7, Tryz.ntmps7
  go_wp2_with fail
  refine (new_any w).mono ?_
  rintro e w1 ⟨rfl, hr1, hb1⟩
  have HB1 := Lib.hid hb1
  have HR1 := Lib.hid hr1
  clear hb1 hr1
  go_wp2_with fail
  refine (rrib_any w1 w.heap.size none 0 0 _ HR1.out (by omega)).mono ?_
  rintro e w2 ⟨rfl, hr2, hk2⟩
  have HB2 := Lib.hid (HB1.out.trans (hk2.bel w.heap.size (Nat.le_refl _) (fun b h => by cases h) HB1.out.size))
  have HR2 := Lib.hid hr2
  clear hr2 hk2
  have hA := @newsp3 w2 (.cells #[.int .i64 4, .string aB, .bool false, .slice none 0 0, .slice none 0 0, .int .i64 0, .slice none 0 0, .slice none 0 0] 29) (.cells #[.int .i64 1] 3) (.cells #[.int .i64 4, .string aB, .bool false, .slice none 0 0, .slice none 0 0, .int .i64 0, .slice none 0 0, .slice (some ⟨w2.heap.size + 1, 0, none⟩) 1 1] 29)
  have hz := iz_one1 w2 (.cells #[.int .i64 4, .string aB, .bool false, .slice none 0 0, .slice none 0 0, .int .i64 0, .slice none 0 0, .slice none 0 0] 29) (.cells #[.int .i64 4, .string aB, .bool false, .slice none 0 0, .slice none 0 0, .int .i64 0, .slice none 0 0, .slice (some ⟨w2.heap.size + 1, 0, none⟩) 1 1] 29) 1
  have hb3 := below3 w2 (.cells #[.int .i64 4, .string aB, .bool false, .slice none 0 0, .slice none 0 0, .int .i64 0, .slice none 0 0, .slice none 0 0] 29) (.cells #[.int .i64 1] 3) (.cells #[.int .i64 4, .string aB, .bool false, .slice none 0 0, .slice none 0 0, .int .i64 0, .slice none 0 0, .slice (some ⟨w2.heap.size + 1, 0, none⟩) 1 1] 29)
  unfold aB at hA hz hb3
  go_upto_region 6 with fail
  generalize ((w2.alloc (.cells #[.int .i64 4, .string ⟨#[97]⟩, .bool false, .slice none 0 0, .slice none 0 0, .int .i64 0, .slice none 0 0, .slice none 0 0] 29)).alloc (.cells #[.int .i64 1] 3)).alloc (.cells #[.int .i64 4, .string ⟨#[97]⟩, .bool false, .slice none 0 0, .slice none 0 0, .int .i64 0, .slice none 0 0, .slice (some ⟨w2.heap.size + 1, 0, none⟩) 1 1] 29) = w3 at *
  have HB3 := Lib.hid (HB2.out.trans (hb3.mono HB2.out.size))
  have HR3 := Lib.hid (HR2.out.below hb3)
  have HZ3 := Lib.hid hz
  have HBX := Lib.hid hA.2.2
  have HGL : Hid (w.heap.size < w2.heap.size) := Lib.hid HR2.out.lt
  obtain ⟨c0, c1, c2, c3, c4, c5, c6, c7⟩ := rowS8 hA.1
  clear hA hz hb3 HR2
  have hma : mayP 1 1 (.mk 4 aB false [] [] 0 [] []) 7 = true := by unfold mayP; rw [idB_leaf aB_byt (by omega) sndW_nil]; rfl
  have HMA := Lib.hid hma
  clear hma
  go_wp2_with fail
  refine (rput_any w3 w.heap.size none 1 0 _ HR3.out 1 (.mk 4 aB false [] [] 0 [] []) [.int .i64 4, .string aB, .bool false, .slice none 0 0, .slice none 0 0, .int .i64 0, .slice none 0 0, .slice none 0 0] 7 (sl_leaf (by decide) (Iz.nil _) (Iz.nil _)) (sm_leaf (by decide) (by simp) (by simp)) (by simp [Sx.m]) (HT.out.below HB3.out (Nat.le_refl _))).mono ?_
  rintro e w4 hp
  obtain ⟨ob', rfl, hr4, hk4, ho4⟩ := hp.ok HMA.out rfl
  have HB4 := Lib.hid (HB3.out.trans (hk4.bel w.heap.size (Nat.le_refl _) (fun b h => by cases h) HB3.out.size))
  have hlt := (Array.getElem?_eq_some_iff.1 HBX.out).1
  have hgl := HGL.out
  have HBX4 := Lib.hid ((hk4.kee.2 _ hlt ⟨by omega, fun h => by cases h⟩).trans HBX.out)
  have HZ4 := Lib.hid (RowV.move (P := fun b => b ≠ w.heap.size ∧ (none : Option Nat) ≠ some b) HZ3.out (fun b _ hb => ⟨by have := ob_eq hb; omega, fun h => by cases h⟩) hk4.kee)
  have HR4 := Lib.hid hr4
  clear hp hr4 hk4 ho4 hlt hgl c0 c1 c2 c3 c4 c5 c6 c7
  obtain ⟨c0, c1, c2, c3, c4, c5, c6, c7⟩ := rowS8 HBX4.out
  go_wp2_with fail
  refine (rfind_any w4 w.heap.size ob' 1 0 _ HR4.out (.mk 4 aB false [] [] 0 [] [1]) [.int .i64 4, .string aB, .bool false, .slice none 0 0, .slice none 0 0, .int .i64 0, .slice none 0 0, .slice (some ⟨w2.heap.size + 1, 0, none⟩) 1 1] (sl_leaf (by decide) (Iz.nil _) HZ4.out) (sm_leaf (by decide) (by simp) (by simp)) (HT.out.below HB4.out (Nat.le_refl _))).mono ?_
  rintro e w5 ⟨rfl, hb5⟩
  have HB5 := Lib.hid (HB4.out.trans (hb5.mono HB4.out.size))
  have hid5 : idB (.mk 4 aB false [] [] 0 [] [1]) = true := idB_leaf aB_byt (by omega) (sndW_one (by omega))
  have hv : fndB (putE (fun _ => none) (1, aB, wrt []) 7) (.mk 4 aB false [] [] 0 [] [1]) = 7 := by
    unfold fndB
    rw [hid5, if_pos rfl]
    show fndL (atE _ aB) [1] [] = 7
    have e : atE (putE (fun _ => none) (1, aB, wrt []) 7) aB 1 [] = 7 := by rw [atE_put Rg.nil Rg.nil, if_pos ⟨rfl, rfl, rfl⟩]
    rw [fnd_b (by decide), e]
    rfl
  have hv2 : fndE (.mk 4 aB false [] [] 0 [] [1]) = 0 := by unfold fndE; rw [hid5]; rfl
  simp only [Sx.t, Sx.m] at hv ⊢
  rw [hv, hv2]
  clear hb5 hv hv2 hid5 c0 c1 c2 c3 c4 c5 c6 c7
  go_wp2_with fail
  go_ret
  exact ⟨rfl, HB5.out⟩
end Go.Proofs.YtegengnffdlplaaGreatDoor
