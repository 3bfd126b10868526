/- RibApart: ribs and their copy know nothing of each other; numbers are new each time; nil ones are refused. -/
import Derived.Test.YtegengnffdlplaaGreatDoorRbFresh
import Derived.Test.YtegengnffdlplaaGreatDoorRbCopy
namespace Go.Proofs.YtegengnffdlplaaGreatDoor
open Go.RowKit

/-- Ribs, and their copy, in which nothing stands. -/
structure Tw (w0 W : World) (g c R G Rc Gc : Nat) (tk : Ek → Option Int) : Prop where
  ex : ∃ ob, RbW W g ob R G tk ∧ (∀ b, ob = some b → w0.heap.size ≤ b) ∧ ob ≠ some c
  cp : RbW W c none Rc Gc (fun _ => none)
  ne : g ≠ c
  bel : Below w0.heap.size w0 W
  le : w0.heap.size ≤ g
  lc : w0.heap.size ≤ c
theorem Tw.below {w0 W W' : World} {g c R G Rc Gc : Nat} {tk : Ek → Option Int} (h : Tw w0 W g c R G Rc Gc tk) (hb : Below W.heap.size W W') : Tw w0 W' g c R G Rc Gc tk := by
  obtain ⟨ob, h1, h2, h3⟩ := h.ex
  exact ⟨⟨ob, h1.below hb, h2, h3⟩, h.cp.below hb, h.ne, h.bel.trans (hb.mono h.bel.size), h.le, h.lc⟩
theorem tput {w0 W : World} {g c R G Rc Gc : Nat} {tk : Ek → Option Int} (h : Tw w0 W g c R G Rc Gc tk) (b : Int) (D : Sx) (us : List Value) (l : Int) (hd : SLay W D us) (hsm : SmS 1100000 D) (hml : D.m.length ≤ 1000000) (ht : Tabs w0) (hok : mayP R b D l = true) (hz : (tk (b, D.t, wrt D.m)).getD 0 = 0) :
    Calls Tryz.prog 21 #[.pointer (some ⟨g, 0, none⟩), .int .i64 b, .agg us.toArray, .int .i64 l] W fun e w' => e = .returned (.int .i64 0) ∧ Tw w0 w' g c R G Rc Gc (putE tk (b, D.t, wrt D.m) l) := by
  obtain ⟨ob, h1, h2, h3⟩ := h.ex
  refine (rput_any W g ob R G tk h1 b D us l hd hsm hml (ht.below h.bel (Nat.le_refl _))).mono fun e w' hp => ?_
  obtain ⟨ob', k3, k4, k5, k6⟩ := hp.ok hok hz
  refine ⟨k3, ⟨ob', k4, fun b hb => ?_, fun e => ?_⟩, h.cp.keep k5.kee ⟨h.ne.symm, h3⟩ (fun _ h => by cases h), h.ne, h.bel.trans (k5.bel _ h.le h2 h.bel.size), h.le, h.lc⟩
  · rcases k6 b hb with h7 | h7
    · exact h2 b h7
    · exact Nat.le_trans h.bel.size h7
  · rcases k6 c e with h7 | h7
    · exact h3 h7
    · have := h.cp.lt; omega
theorem tfreshr {w0 W : World} {g c R G Rc Gc : Nat} {tk : Ek → Option Int} (h : Tw w0 W g c R G Rc Gc tk) (hG : G ≤ 1000000) :
    Calls Tryz.prog 18 #[.pointer (some ⟨g, 0, none⟩)] W fun e w' => e = .returned (.int .i64 ((G : Int) + 1)) ∧ Tw w0 w' g c R (G + 1) Rc Gc tk := by
  obtain ⟨ob, h1, h2, h3⟩ := h.ex
  exact (rfresh_any W g ob R G tk h1 hG).mono fun e w' ⟨k1, k2, k3⟩ => ⟨k1, ⟨ob, k2, h2, h3⟩, h.cp.keep k3.kee ⟨h.ne.symm, h3⟩ (fun _ h => by cases h), h.ne, h.bel.trans (k3.bel _ h.le h2 h.bel.size), h.le, h.lc⟩
theorem tfreshc {w0 W : World} {g c R G Rc Gc : Nat} {tk : Ek → Option Int} (h : Tw w0 W g c R G Rc Gc tk) (hG : Gc ≤ 1000000) :
    Calls Tryz.prog 18 #[.pointer (some ⟨c, 0, none⟩)] W fun e w' => e = .returned (.int .i64 ((Gc : Int) + 1)) ∧ Tw w0 w' g c R G Rc (Gc + 1) tk := by
  obtain ⟨ob, h1, h2, h3⟩ := h.ex
  exact (rfresh_any W c none Rc Gc _ h.cp hG).mono fun e w' ⟨k1, k2, k3⟩ => ⟨k1, ⟨ob, h1.keep k3.kee ⟨h.ne, fun h => by cases h⟩ (fun b hb => ⟨fun e => h3 (by rw [hb, e]), fun h => by cases h⟩), h2, h3⟩, k2, h.ne, h.bel.trans (k3.bel _ h.lc (fun b h => by cases h) h.bel.size), h.le, h.lc⟩
theorem tribc {w0 W : World} {g c R G Rc Gc : Nat} {tk : Ek → Option Int} (h : Tw w0 W g c R G Rc Gc tk) (hR : Rc ≤ 1000000) :
    Calls Tryz.prog 19 #[.pointer (some ⟨c, 0, none⟩)] W fun e w' => e = .returned (.int .i64 ((Rc : Int) + 1)) ∧ Tw w0 w' g c R G (Rc + 1) Gc tk := by
  obtain ⟨ob, h1, h2, h3⟩ := h.ex
  exact (rrib_any W c none Rc Gc _ h.cp hR).mono fun e w' ⟨k1, k2, k3⟩ => ⟨k1, ⟨ob, h1.keep k3.kee ⟨h.ne, fun h => by cases h⟩ (fun b hb => ⟨fun e => h3 (by rw [hb, e]), fun h => by cases h⟩), h2, h3⟩, k2, h.ne, h.bel.trans (k3.bel _ h.lc (fun b h => by cases h) h.bel.size), h.le, h.lc⟩
theorem tfindr {w0 W : World} {g c R G Rc Gc : Nat} {tk : Ek → Option Int} (h : Tw w0 W g c R G Rc Gc tk) (D : Sx) (us : List Value) (hd : SLay W D us) (hsm : SmS 1100000 D) (ht : Tabs w0) :
    Calls Tryz.prog 9 #[.pointer (some ⟨g, 0, none⟩), .agg us.toArray] W fun e w' => e = .returned (.tuple #[.int .i64 (fndB tk D), .int .i64 (fndE D)]) ∧ Tw w0 w' g c R G Rc Gc tk := by
  obtain ⟨ob, h1, h2, h3⟩ := h.ex
  exact (rfind_any W g ob R G tk h1 D us hd hsm (ht.below h.bel (Nat.le_refl _))).mono fun e w' ⟨k1, k2⟩ => ⟨k1, h.below k2⟩
theorem tfindc {w0 W : World} {g c R G Rc Gc : Nat} {tk : Ek → Option Int} (h : Tw w0 W g c R G Rc Gc tk) (D : Sx) (us : List Value) (hd : SLay W D us) (hsm : SmS 1100000 D) (ht : Tabs w0) :
    Calls Tryz.prog 9 #[.pointer (some ⟨c, 0, none⟩), .agg us.toArray] W fun e w' => e = .returned (.tuple #[.int .i64 (fndB (fun _ => none) D), .int .i64 (fndE D)]) ∧ Tw w0 w' g c R G Rc Gc tk :=
  (rfind_any W c none Rc Gc _ h.cp D us hd hsm (ht.below h.bel (Nat.le_refl _))).mono fun e w' ⟨k1, k2⟩ => ⟨k1, h.below k2⟩
def qB : ByteArray := ⟨#[113]⟩
theorem qB_byt : byt qB = [113] := by decide
theorem q1_id : idB (.mk 4 qB false [] [] 0 [] [1]) = true := idB_leaf qB_byt (by omega) (sndW_one (by omega))
theorem mayP_q {t : ByteArray} {c : Nat} (ht : byt t = [c]) (hc : 97 ≤ c ∧ c ≤ 122) {m s : List Int} (hw : sndW m s = true) : mayP 1 1 (.mk 4 t false [] [] 0 m s) 5 = true := by
  unfold mayP; rw [idB_leaf ht hc hw]; rfl
theorem fnd_q0 : fndB (fun _ => none) (.mk 4 qB false [] [] 0 [] [1]) = 0 := by
  unfold fndB
  rw [q1_id, if_pos rfl]
  show fndL (atE (fun _ => none) qB) [1] [] = 0
  rw [fnd_b (by decide), atE_none0]
  rfl
theorem fnd_q5 : fndB (putE (fun _ => none) (1, qB, wrt []) 5) (.mk 4 qB false [] [] 0 [] [1]) = 5 := by
  unfold fndB
  rw [q1_id, if_pos rfl]
  show fndL (atE _ qB) [1] [] = 5
  have e : atE (putE (fun _ => none) (1, qB, wrt []) 5) qB 1 [] = 5 := by rw [atE_put Rg.nil Rg.nil, if_pos ⟨rfl, rfl, rfl⟩]
  rw [fnd_b (by decide), e]
  rfl
theorem iz_new1 (w : World) (z : Int) : Iz (w.alloc (.cells #[.int .i64 z] 3)) (.slice (some ⟨w.heap.size, 0, none⟩) 1 1) [z] := RowV.of_own (one_row w 3 (.int .i64 z))

set_option maxRecDepth 100000 in
set_option maxHeartbeats 8000000 in
theorem ribapart_any (z0 : Int) (D : Sx) (us : List Value) (w : World) (hd : SLay w D us) (hsm : SmS 1100000 D) (ht : Tabs w) (h0 : 0 ≤ z0) (h1 : z0 ≤ 255) :
    Calls Tryz.prog 4 #[.int .u8 z0, .agg us.toArray] w fun e w' => e = .returned (.bool true) ∧ Below w.heap.size w w' := by
  have HD := Lib.hid hd
  have HSM := Lib.hid hsm
  have HT := Lib.hid ht
  obtain ⟨kx, tx, nx, xo, xn, xc, yo, yn, yc, ax, po, pn, pc, qo, qn, qc, rfl⟩ := sx_shapes hd
  clear hd hsm ht
  have hb1 := below1 w (.cells #[.int .i64 kx, .string tx, .bool nx, .slice xo xn xc, .slice yo yn yc, .int .i64 ax, .slice po pn pc, .slice qo qn qc] 29)
  have hn1 := heap_alloc_new w (.cells #[.int .i64 kx, .string tx, .bool nx, .slice xo xn xc, .slice yo yn yc, .int .i64 ax, .slice po pn pc, .slice qo qn qc] 29)
  show Calls Tryz.prog 4 #[.int .u8 z0, .agg #[.int .i64 kx, .string tx, .bool nx, .slice xo xn xc, .slice yo yn yc, .int .i64 ax, .slice po pn pc, .slice qo qn qc]] w _
  go_enter Tryz.func4, Tryz.ntmps4
  go_upto_region 1 with fail
  generalize w.alloc (.cells #[.int .i64 kx, .string tx, .bool nx, .slice xo xn xc, .slice yo yn yc, .int .i64 ax, .slice po pn pc, .slice qo qn qc] 29) = w1 at *
  have HB1 := Lib.hid hb1
  have HN1 := Lib.hid hn1
  clear hb1 hn1
  go_wp2_with fail
  refine (new_any w1).mono ?_
  rintro e w2 ⟨rfl, hr, hb⟩
  have HR2 := Lib.hid hr
  have HB2 := Lib.hid hb
  clear hr hb
  have HG1 : Hid (w1.heap.size ≤ w1.heap.size) := Lib.hid (Nat.le_refl _)
  generalize hg : w1.heap.size = g at HR2 ⊢
  have HGL : Hid (w1.heap.size ≤ g) := Lib.hid (by omega)
  clear HG1 hg
  go_wp2_with fail
  refine (answers11_any w2 (HT.out.below (HB1.out.trans (HB2.out.mono HB1.out.size)) (Nat.le_refl _))).mono ?_
  rintro e w3 ⟨rfl, hb⟩
  have HR3 := Lib.hid (HR2.out.below hb)
  have HB3 := Lib.hid (HB2.out.trans (hb.mono HB2.out.size))
  clear hb HR2 HB2
  obtain ⟨c0, c1, c2, c3, c4, c5, c6, c7⟩ := rowS8 ((HB3.out.block _ (Array.getElem?_eq_some_iff.1 HN1.out).1).trans HN1.out)
  go_wp2_with fail
  refine (light11_any D _ w3 (HD.out.keep (HB1.out.trans (HB3.out.mono HB1.out.size)))).mono ?_
  rintro e w4 ⟨rfl, hb⟩
  have HR4 := Lib.hid (HR3.out.below hb)
  have HB4 := Lib.hid (HB3.out.trans (hb.mono HB3.out.size))
  clear hb HR3 HB3 c0 c1 c2 c3 c4 c5 c6 c7
  obtain ⟨i0, HI0⟩ : ∃ b, Hid (ltB D = b) := ⟨_, Lib.hid rfl⟩
  rw [HI0.out]
  cases i0 with
  | false =>
    go_wp2_with fail
    refine (answers11_any w4 (HT.out.below (HB1.out.trans (HB4.out.mono HB1.out.size)) (Nat.le_refl _))).mono ?_
    rintro e w5 ⟨rfl, hb⟩
    have HB5 := Lib.hid (HB4.out.trans (hb.mono HB4.out.size))
    clear hb
    go_wp2_with fail
    go_ret
    exact ⟨rfl, HB1.out.trans (HB5.out.mono HB1.out.size)⟩
  | true =>
    obtain ⟨n, hn⟩ : ∃ n : Nat, z0 % 30 = (n : Int) := ⟨(z0 % 30).toNat, by omega⟩
    have hnr : n ≤ 29 := by omega
    have HNR := Lib.hid hnr
    go_wp2_with fail
    go_loopw [6] (fun v wr => ∃ j : Nat, v = .int .i64 ((j : Int) + 1) ∧ j ≤ n ∧ RbW wr g none 0 j (fun _ => none) ∧ Below w1.heap.size w1 wr) (fun v _ => n + 1 - (intOf v).toNat)
    case atStart => exact ⟨0, rfl, Nat.zero_le _, HR4.out, HB4.out⟩
    case round =>
      obtain ⟨j, rfl, hj, hr, hb⟩ := hrel
      have HRR := Lib.hid hr
      have HBR := Lib.hid hb
      clear hr hb HR4 HB4
      by_cases hjn : j < n
      · have hii : ((j : Nat) : Int) + 1 ≤ ((n : Nat) : Int) := by omega
        go_wp2_with fail
        refine (rfresh_any wr g none 0 j _ HRR.out (by omega)).mono ?_
        rintro e w6 ⟨rfl, hr, hk⟩
        have HR6 := Lib.hid hr
        have HB6 := Lib.hid (HBR.out.trans (hk.bel _ HGL.out (fun b h => by cases h) HBR.out.size))
        clear hr hk
        rw [show ((j + 1 : Nat) : Int) = (j : Int) + 1 from rfl]
        go_wp2_with fail
        go_roundw
        case measure => simp only [intOf]; omega
        case rel => exact ⟨j + 1, by go_num, by omega, HR6.out, HB6.out⟩
      · obtain rfl : n = j := by omega
        have hii : decide (((n : Nat) : Int) + 1 ≤ ((n : Nat) : Int)) = false := decide_eq_false (by omega)
        go_wp2_with fail
        refine (rrib_any wr g none 0 n _ HRR.out (by omega)).mono ?_
        rintro e w6 ⟨rfl, hr, hk⟩
        have HR6 : Hid (RbW w6 g none 1 n (fun _ => none)) := Lib.hid hr
        have HB6 := Lib.hid (HBR.out.trans (hk.bel _ HGL.out (fun b h => by cases h) HBR.out.size))
        clear hr hk HRR HBR
        rw [show ((0 + 1 : Nat) : Int) = 1 from rfl]
        go_wp2_with fail
        refine (rcopy_any w6 g none 1 n _ HR6.out).mono ?_
        rintro e w7 ⟨rfl, ⟨ob, hr, _, ho⟩, hb⟩
        obtain rfl := ho rfl
        have HT7 : Hid (Tw w1 w7 g w6.heap.size 1 n 1 n (fun _ => none)) := Lib.hid ⟨⟨none, HR6.out.below hb, fun b h => (by cases h), fun h => (by cases h)⟩, hr, Nat.ne_of_lt HR6.out.lt, HB6.out.trans (hb.mono HB6.out.size), HGL.out, HB6.out.size⟩
        clear hr hb ho
        generalize w6.heap.size = gc at HT7 ⊢
        clear HR6 HB6
        have hxa := heap_alloc_new w7 (.cells #[.int .i64 4, .string ⟨#[113]⟩, .bool false, .slice none 0 0, .slice none 0 0, .int .i64 0, .slice none 0 0, .slice none 0 0] 29)
        have hba := below1 w7 (.cells #[.int .i64 4, .string ⟨#[113]⟩, .bool false, .slice none 0 0, .slice none 0 0, .int .i64 0, .slice none 0 0, .slice none 0 0] 29)
        go_upto_region 12 with fail
        generalize w7.alloc (.cells #[.int .i64 4, .string ⟨#[113]⟩, .bool false, .slice none 0 0, .slice none 0 0, .int .i64 0, .slice none 0 0, .slice none 0 0] 29) = w8 at *
        have HX8 := Lib.hid hxa
        have HT8 := Lib.hid (HT7.out.below hba)
        clear hxa hba HT7
        obtain ⟨c0, c1, c2, c3, c4, c5, c6, c7⟩ := rowS8 (HX8.out)
        go_wp2_with fail
        refine (tput HT8.out 1 (.mk 4 qB false [] [] 0 [] []) [.int .i64 4, .string qB, .bool false, .slice none 0 0, .slice none 0 0, .int .i64 0, .slice none 0 0, .slice none 0 0] 5 (sl_leaf (by decide) (Iz.nil _) (Iz.nil _)) (sm_leaf (by decide) (by simp) (by simp)) (by simp [Sx.m]) (HT.out.below HB1.out (Nat.le_refl _)) (mayP_q qB_byt (by omega) sndW_nil) rfl).mono ?_
        rintro e w9 ⟨rfl, ht⟩
        have HT9 : Hid (Tw w1 w9 g gc 1 n 1 n (putE (fun _ => none) (1, qB, wrt []) 5)) := Lib.hid ht
        clear ht HT8 HX8 c0 c1 c2 c3 c4 c5 c6 c7
        have hx0 := iz_new1 w9 1
        have hy0 := below1 w9 (.cells #[.int .i64 1] 3)
        have HSI := Lib.hid hx0
        have HTI := Lib.hid (HT9.out.below hy0)
        clear hx0 hy0
        go_wp2_with fail
        refine (tfindc HTI.out (.mk 4 qB false [] [] 0 [] [1]) [.int .i64 4, .string qB, .bool false, .slice none 0 0, .slice none 0 0, .int .i64 0, .slice none 0 0, .slice (some ⟨w9.heap.size, 0, none⟩) 1 1] (sl_leaf (by decide) (Iz.nil _) HSI.out) (sm_leaf (by decide) (by simp) (by simp)) (HT.out.below HB1.out (Nat.le_refl _))).mono ?_
        rintro e w10 ⟨rfl, ht⟩
        have HT10 := Lib.hid ht
        clear ht HSI HTI HT9
        rw [fndE_is q1_id, fnd_q0]
        have hx0 := iz_new1 w10 1
        have hy0 := below1 w10 (.cells #[.int .i64 1] 3)
        have HSI := Lib.hid hx0
        have HTI := Lib.hid (HT10.out.below hy0)
        clear hx0 hy0
        go_wp2_with fail
        refine (tfindr HTI.out (.mk 4 qB false [] [] 0 [] [1]) [.int .i64 4, .string qB, .bool false, .slice none 0 0, .slice none 0 0, .int .i64 0, .slice none 0 0, .slice (some ⟨w10.heap.size, 0, none⟩) 1 1] (sl_leaf (by decide) (Iz.nil _) HSI.out) (sm_leaf (by decide) (by simp) (by simp)) (HT.out.below HB1.out (Nat.le_refl _))).mono ?_
        rintro e w11 ⟨rfl, ht⟩
        have HT11 := Lib.hid ht
        clear ht HSI HTI HT10
        rw [fndE_is q1_id, fnd_q5]
        obtain ⟨c0, c1, c2, c3, c4, c5, c6, c7⟩ := rowS8 ((HT11.out.bel.block _ (Array.getElem?_eq_some_iff.1 HN1.out).1).trans HN1.out)
        go_wp2_with fail
        refine (own_sxK D HSM.out.owk _ w11 (HD.out.keep (HB1.out.trans (HT11.out.bel.mono HB1.out.size)))).mono ?_
        rintro e w12 ⟨vs, rfl, hl, hb⟩
        obtain ⟨kx12, tx12, nx12, xo12, xn12, xc12, yo12, yn12, yc12, ax12, po12, pn12, pc12, qo12, qn12, qc12, rfl⟩ := sx_shapes hl.lay
        have HT12 := Lib.hid (HT11.out.below hb)
        clear hl hb c0 c1 c2 c3 c4 c5 c6 c7
        go_wp2_with fail
        refine (find_nil _ _ _ _ _ _ _ _ _ _ _ _ _ _ _ _ w12).mono ?_
        rintro e w13 ⟨rfl, hb⟩
        have HT13 := Lib.hid (HT12.out.below hb)
        clear hb HT12
        go_wp2_with fail
        refine (tfreshc HT13.out (by have := HNR.out; omega)).mono ?_
        rintro e w14 ⟨rfl, ht⟩
        have HT14 := Lib.hid ht
        clear ht HT13
        go_wp2_with fail
        refine (tfreshr HT14.out (by have := HNR.out; omega)).mono ?_
        rintro e w15 ⟨rfl, ht⟩
        have HT15 := Lib.hid ht
        clear ht HT14
        go_wp2_with fail
        refine (tribc HT15.out (by omega)).mono ?_
        rintro e w16 ⟨rfl, ht⟩
        have HT16 := Lib.hid ht
        clear ht HT15
        rw [show ((1 : Nat) : Int) + 1 = 2 from rfl]
        go_wp2_with fail
        refine (rib_nil w16).mono ?_
        rintro e w17 ⟨rfl, hb⟩
        have HT17 := Lib.hid (HT16.out.below hb)
        clear hb HT16
        go_wp2_with fail
        refine (fresh_nil w17).mono ?_
        rintro e w18 ⟨rfl, hb⟩
        have HT18 := Lib.hid (HT17.out.below hb)
        clear hb HT17
        obtain ⟨c0, c1, c2, c3, c4, c5, c6, c7⟩ := rowS8 ((HT18.out.bel.block _ (Array.getElem?_eq_some_iff.1 HN1.out).1).trans HN1.out)
        go_wp2_with fail
        refine (own_sxK D HSM.out.owk _ w18 (HD.out.keep (HB1.out.trans (HT18.out.bel.mono HB1.out.size)))).mono ?_
        rintro e w19 ⟨vs, rfl, hl, hb⟩
        obtain ⟨kx19, tx19, nx19, xo19, xn19, xc19, yo19, yn19, yc19, ax19, po19, pn19, pc19, qo19, qn19, qc19, rfl⟩ := sx_shapes hl.lay
        have HT19 := Lib.hid (HT18.out.below hb)
        clear hl hb c0 c1 c2 c3 c4 c5 c6 c7
        go_wp2_with fail
        refine (put_nil _ _ _ _ _ _ _ _ _ _ _ _ _ _ _ _ 1 1 w19).mono ?_
        rintro e w20 ⟨rfl, hb⟩
        have HT20 := Lib.hid (HT19.out.below hb)
        clear hb HT19
        obtain ⟨c0, c1, c2, c3, c4, c5, c6, c7⟩ := rowS8 ((HT20.out.bel.block _ (Array.getElem?_eq_some_iff.1 HN1.out).1).trans HN1.out)
        go_wp2_with fail
        refine (free_nil kx tx nx xo xn xc yo yn yc ax po pn pc qo qn qc w20).mono ?_
        rintro e w21 ⟨rfl, hb⟩
        have HT21 := Lib.hid (HT20.out.below hb)
        clear hb HT20
        clear c0 c1 c2 c3 c4 c5 c6 c7
        go_wp2_with fail
        refine (copy_nil w21).mono ?_
        rintro e w22 ⟨rfl, hb⟩
        have HT22 := Lib.hid (HT21.out.below hb)
        clear hb HT21
        go_wp2_with fail
        go_ret
        exact ⟨rfl, HB1.out.trans (HT22.out.bel.mono HB1.out.size)⟩
end Go.Proofs.YtegengnffdlplaaGreatDoor
