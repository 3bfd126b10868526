/- The law TokenLong. -/
import Derived.Test.YthlfcdjlkglppaaDoorTkLMath
import Derived.Test.YthlfcdjlkglppaaDoorConv
namespace Go.Proofs.YthlfcdjlkglppaaDoor
open Go.RowKit

/-- The cells of a row of ints. -/
def cInts (xs : List Nat) : List Value := xs.map fun (x : Nat) => Value.int .i64 (x : Int)
theorem cInts_snoc (xs : List Nat) (x : Nat) : cInts xs ++ [.int .i64 (x : Nat)] = cInts (xs ++ [x]) := by simp [cInts]
theorem rep_setX (x k m : Nat) : (List.replicate k x ++ List.replicate (m + 1) 0).set k x = List.replicate (k + 1) x ++ List.replicate m 0 := by
  rw [List.set_append_right _ _ (by simp), List.replicate_succ' (n := k), List.replicate_succ (n := m)]
  simp
/-- What Scan answers of a long string. -/
def LScan (x m : Nat) (w : World) (e : Ending) (w' : World) : Prop :=
  Below w.heap.size w w' ∧
    ((m ≤ 4096 ∧ ∃ g cap, 1 ≤ cap ∧ g < w'.heap.size ∧ w'.cell? ⟨g, 3, none⟩ = some (.string (mkB (List.replicate m x))) ∧ e = .returned (.tuple #[.slice (some ⟨g, 0, none⟩) 1 cap, .int .i64 0, .int .i64 0]))
    ∨ (4096 < m ∧ ∃ ao cap, e = .returned (.tuple #[.slice ao 0 cap, .int .i64 0, .int .i64 3])))
/-- What Atom answers of a long symbol. -/
def LAtom (K : Nat) (w : World) (e : Ending) (w' : World) : Prop :=
  Below w.heap.size w w' ∧ ∃ k t n lv len cap, e = .returned (.tuple #[.agg #[.int .i64 k, .string t, .bool n, .slice lv len cap, .slice none 0 0, .int .i64 0], .bool (decide (K ≤ 64))])
theorem lscan_any {x m : Nat} (hx : 97 ≤ x ∧ x ≤ 122) (hm : m ≤ 5000) (v : Value) (w : World) (hs : SlV w v (cInts (longT x m))) (ht : Tabs2 w) (hwd : Words w) (hmk : Marks w) :
    Calls Tryd.prog 13 #[v] w (LScan x m w) := by
  have he : cInts (longT x m) = intCells ((longT x m).map fun (c : Nat) => (c : Int)) := by unfold cInts intCells; rw [List.map_map]; rfl
  rw [he] at hs
  refine (scan_any v _ w hs (by rw [List.length_map, longT_len]; omega) ht hwd hmk).mono ?_
  rintro e w' ⟨v', ps, rfl, hps, htk, _, hb⟩
  rw [longT_scan hx] at hps ⊢
  refine ⟨hb, ?_⟩
  by_cases h : m ≤ 4096
  · rw [if_pos h] at hps ⊢
    left
    have hl : ps.length = 1 := by have := congrArg List.length hps; simpa using this
    obtain ⟨g, cap, hv, hcap, hg, hcells⟩ := htk.at' (j := 0) (by omega)
    have hp1 : (ps[0]'(by omega)).1 = leafW ⟨5, encL (List.replicate m x), false, []⟩ 0 := by
      have h : (ps.map (·.1))[0]? = some (leafW ⟨5, encL (List.replicate m x), false, []⟩ 0) := by rw [hps]; rfl
      rw [List.getElem?_map, List.getElem?_eq_getElem (by omega)] at h
      exact Option.some.inj h
    have hc := hcells 3 (.string (mkB (encL (List.replicate m x)))) (by rw [hp1]; rfl)
    rw [encL_rep hx] at hc
    rw [hl] at hcap hv
    subst hv
    exact ⟨h, g, cap, hcap, hg, hc, rfl⟩
  · rw [if_neg h] at hps ⊢
    right
    have hl : ps = [] := List.map_eq_nil_iff.1 hps
    subst hl
    refine ⟨by omega, ?_⟩
    rcases htk.own.2 with ⟨rfl, _⟩ | ⟨g, cap, cur, rfl, _⟩
    · exact ⟨_, _, rfl⟩
    · exact ⟨_, _, rfl⟩
theorem latom_any {x K : Nat} (hx : 97 ≤ x ∧ x ≤ 122) (hk : 7 ≤ K) (hK : K ≤ 1000) (s : ByteArray) (hs : s = strOf (List.replicate K x)) (w : World) (ht : Tabs2 w) :
    Calls Tryd.prog 9 #[.string s] w (LAtom K w) := by
  have hs2 : s = mkB (List.replicate K x) := hs
  have hby : byt s = List.replicate K x := by rw [hs2, byt_mk (rep_by hx K)]
  refine (tatom_any s w ht.utf (by rw [hs2, mkB_size]; simp; omega)).mono ?_
  rintro e w' ⟨lv, rfl, hl, hb⟩
  refine ⟨hb, ?_⟩
  obtain ⟨_, ao, cap, rfl, _⟩ := hl
  rw [hby, atmA_rep hx hk]
  exact ⟨_, _, _, _, _, _, rfl⟩

set_option maxRecDepth 100000 in
set_option maxHeartbeats 4000000 in
theorem long_any (c n : Nat) (hc : c < 256) (hn : n < 256) (w : World) (ht : Tabs2 w) (hwd : Words w) (hmk : Marks w) :
    Calls Tryd.prog 6 #[.int .u8 (c : Nat), .int .u8 (n : Nat)] w (TruePost w) := by
  obtain ⟨i0, hi, hz0, hz1, hz2⟩ := info_parts infoInt
  obtain ⟨j0, hj, hy0, hy1, hy2⟩ := info_parts infoUB
  have HT := Lib.hid ht; clear ht
  have HW := Lib.hid hwd; clear hwd
  have HM := Lib.hid hmk; clear hmk
  go_enter Tryd.func6, Tryd.ntmps6
  go_wp2_with fail
  obtain ⟨x, hx⟩ : ∃ x : Nat, x = c % 26 + 97 := ⟨_, rfl⟩
  have hx1 : 97 ≤ x ∧ x ≤ 122 := by omega
  obtain ⟨r, hr⟩ : ∃ r : Nat, r = n % 10 := ⟨_, rfl⟩
  have hr9 : r ≤ 9 := by omega
  have hxe : ((c : Nat) : Int) % 26 + 97 = ((x : Nat) : Int) := by omega
  have e10 : ((n : Nat) : Int) % 10 = ((r : Nat) : Int) := by omega
  have HX := Lib.hid hx1
  rw [hxe]
  clear hxe hx hr
  have h0 : (w.alloc (.cells #[.int .i64 34] 3)).ownsRow w.heap.size 3 1 (.slice (some ⟨w.heap.size, 0, none⟩) 1 1) 1 (cInts (34 :: List.replicate 0 x)) := World.ownsRow_lit w #[.int .i64 34] 1 (Nat.le_refl _) (by decide) rfl
  have H0 := Lib.hid h0; clear h0
  go_loopw [6, 7] (fun v i wr => ∃ k : Nat, k ≤ 4091 + r ∧ i = .int .i64 (k : Nat) ∧ wr.ownsRow w.heap.size 3 1 v (k + 1) (cInts (34 :: List.replicate k x)) ∧ Below w.heap.size w wr) (fun _ i _ => 4091 + r - (intOf i).toNat)
  case atStart => exact ⟨0, by omega, rfl, H0.out, (Below.refl _ w).alloc (Nat.le_refl _) _⟩
  case round =>
    obtain ⟨k, hk, rfl, hown, hbel⟩ := hrel
    clear H0
    by_cases hkn : k < 4091 + r
    · have hki : ((k : Nat) : Int) < 4091 + ((r : Nat) : Int) := by omega
      have HOW := Lib.hid hown; clear hown
      have hsz := hbel.size
      have HBL := Lib.hid hbel; clear hbel
      go_wp2_with (at_builtin; go_loud (refine wpList_append_own _ rfl _ _ 33 rfl w.heap.size 3 i0 (.int .i64 0) 1 8 Tryd.underlying33 hi hz0 hz1 hz2 rfl (by decide) _ (k + 1) (cInts (34 :: List.replicate k x)) rfl (HOW.out.alloc _) ⟨wr.heap.size, 0, none⟩ 1 1 [.int .i64 (x : Nat)] rfl (by simp) (cell_one_new _ _ _) (by intro u hu; rw [List.mem_singleton] at hu; subst hu; rfl) (by unfold maxLen; omega) (by omega) (by simp; omega) ?_); intro v' w2 hown1 hgrow hnil; clear hnil)
      go_roundw
      case rel =>
        have e1 : cInts (34 :: List.replicate k x) ++ [.int .i64 (x : Nat)] = cInts (34 :: List.replicate (k + 1) x) := by rw [cInts_snoc, List.cons_append, ← List.replicate_succ']
        rw [e1] at hown1
        have hlo := HOW.out.lt
        have hgrow' : World.grownBy _ w2 (Value.ownBlock _) := hgrow
        exact ⟨k + 1, by omega, by go_num, hown1, (HBL.out.alloc HBL.out.size _).grown hgrow' (by simp; omega) (fun k hk => by have := (hlo k hk).1; omega)⟩
      case measure => simp only [intOf]; omega
    · obtain rfl : k = 4091 + r := by omega
      clear hk hkn
      have HOW := Lib.hid hown; clear hown
      have hsz := hbel.size
      have HBL := Lib.hid hbel; clear hbel
      go_wp2_with (at_builtin; go_loud (refine wpList_append_own _ rfl _ _ 33 rfl w.heap.size 3 i0 (.int .i64 0) 1 8 Tryd.underlying33 hi hz0 hz1 hz2 rfl (by decide) _ (4091 + r + 1) (cInts (34 :: List.replicate (4091 + r) x)) rfl (HOW.out.alloc _) ⟨wr.heap.size, 0, none⟩ 1 1 [.int .i64 34] rfl (by simp) (cell_one_new _ _ _) (by intro u hu; rw [List.mem_singleton] at hu; subst hu; rfl) (by unfold maxLen; omega) (by omega) (by simp; omega) ?_); intro v' w2 hown1 hgrow hnil; clear hnil)
      have e1 : cInts (34 :: List.replicate (4091 + r) x) ++ [.int .i64 34] = cInts (longT x (4091 + r)) := cInts_snoc _ 34
      rw [e1] at hown1
      have hlo := HOW.out.lt
      have hgrow' : World.grownBy _ w2 (Value.ownBlock _) := hgrow
      have hb2 : Below w.heap.size w w2 := (HBL.out.alloc HBL.out.size _).grown hgrow' (by simp; omega) (fun k hk => by have := (hlo k hk).1; omega)
      have hsl := owns_slv hown1
      clear hown1 hlo hgrow hgrow' e1 HOW HBL hsz
      refine (lscan_any (x := x) (m := 4091 + r) HX.out (by omega) _ w2 hsl (HT.out.below hb2) (HW.out.below hb2) (HM.out.below hb2)).mono ?_
      rintro e w3 ⟨hb3, hcase⟩
      have hbw := hb2.trans (hb3.mono hb2.size)
      clear hsl hb3
      have HB3 := Lib.hid hbw
      have hsz3 := hbw.size
      clear hbw hb2
      have hgen : ∃ ao len cap E, e = .returned (.tuple #[.slice ao len cap, .int .i64 0, .int .i64 E]) ∧ ((r ≤ 5 ∧ len = 1 ∧ E = 0 ∧ 1 ≤ cap ∧ ∃ g, ao = some ⟨g, 0, none⟩ ∧ g < w3.heap.size ∧ w3.cell? ⟨g, 3, none⟩ = some (.string (mkB (List.replicate (4091 + r) x)))) ∨ (5 < r ∧ len = 0 ∧ E = 3)) := by
        rcases hcase with ⟨h4, g, cap, hcap, hg, hcell, rfl⟩ | ⟨h4, ao, cap, rfl⟩
        · exact ⟨_, _, _, _, rfl, .inl ⟨by omega, rfl, rfl, hcap, g, rfl, hg, hcell⟩⟩
        · exact ⟨_, _, _, _, rfl, .inr ⟨by omega, rfl, rfl⟩⟩
      clear hcase
      obtain ⟨ao, len, cap, E, rfl, hinf⟩ := hgen
      have HI := Lib.hid hinf; clear hinf
      go_wp2_with (at_make; refine wpList_make_full _ rfl _ _ 44 rfl w.heap.size 5 j0 (.int .u8 0) 1 Tryd.underlying44 hj hy0 hy1 _ _ _ _ (60 + r) rfl rfl (by omega) (by omega) (by rw [hy2]; omega) (by unfold maxLen; omega) hsz3 ?_; intro w5 hown hgrow)
      have hrow : Row .u8 5 w5 w3.heap.size (List.replicate (60 + r) 0) := Row.of_made hown
      have hbm : Below w3.heap.size w3 w5 := (Below.refl _ w3).grown hgrow (Nat.le_refl _) (fun _ h => by cases h)
      clear hown hgrow
      have HROW := Lib.hid hrow; clear hrow
      have HBM := Lib.hid hbm; clear hbm
      go_loopw [12] (fun i wr => ∃ (k : Nat), k ≤ 60 + r ∧ i = .int .i64 (k : Nat) ∧ Row .u8 5 wr w3.heap.size (List.replicate k x ++ List.replicate (60 + r - k) 0) ∧ Below w3.heap.size w3 wr) (fun i _ => 60 + r - (intOf i).toNat)
      case atStart => exact ⟨0, by omega, rfl, HROW.out, HBM.out⟩
      case round =>
        clear HROW HBM
        obtain ⟨k, hk, rfl, hrow, hbel⟩ := hrel
        by_cases hkn : k < 60 + r
        · have hlen : k < (List.replicate k x ++ List.replicate (60 + r - k) 0).length := by simp; omega
          have hki : ((k : Nat) : Int) < 60 + ((r : Nat) : Int) := by omega
          have hcell := hrow.cell hlen
          have hfr := hrow.frozen k
          have HR := Lib.hid hrow
          clear hrow hlen
          have HBL := Lib.hid hbel; clear hbel
          go_wp2_with fail
          go_roundw
          case rel =>
            refine ⟨k + 1, by omega, by go_num, ?_, HBL.out.setCell (Nat.le_refl _) _⟩
            have h := HR.out.put k x rfl
            obtain ⟨m, hm⟩ : ∃ m, 60 + r - k = m + 1 := ⟨60 + r - k - 1, by omega⟩
            rw [hm, rep_setX] at h
            rw [show 60 + r - (k + 1) = m from by omega]
            exact h
          case measure => simp only [intOf]; omega
        · obtain rfl : k = 60 + r := by omega
          have hsl := hrow.sl_all (n := 60 + r) (cap := 60 + r) (by simp) (Nat.le_refl _) (by unfold maxLen; omega)
          have er : List.replicate (60 + r) x ++ List.replicate (60 + r - (60 + r)) 0 = List.replicate (60 + r) x := by simp
          rw [er] at hsl
          have hk1 := conv_sl Tryd.underlying44 Tryd.underlying5 Tryd.underlying9 hsl
          obtain ⟨Q, hQ⟩ : ∃ Q : ByteArray, Q = strOf (List.replicate (60 + r) x) := ⟨_, rfl⟩
          rw [← hQ] at hk1
          clear hrow hsl er hk hkn
          have hbw := HB3.out.trans (hbel.mono HB3.out.size)
          have HBW := Lib.hid hbw
          have HBL := Lib.hid hbel
          have HQ := Lib.hid hQ
          clear hbw hbel hQ
          go_wp2_with fail
          refine (latom_any (x := x) (K := 60 + r) HX.out (by omega) (by omega) Q HQ.out _ (HT.out.below HBW.out)).mono ?_
          rintro e w6 ⟨hb6, k6, t6, n6, lv6, len6, cap6, rfl⟩
          have HB6 := Lib.hid (HBW.out.trans (hb6.mono HBW.out.size))
          have HB36 := Lib.hid (HBL.out.trans (hb6.mono HBL.out.size))
          clear hb6 HBW HBL hk1
          rcases HI.out with ⟨hr5, rfl, rfl, hcap, g, rfl, hg, hcell⟩ | ⟨hr5, rfl, rfl⟩
          · have HC : Hid (∀ w', Below w3.heap.size w3 w' → w'.cell? ⟨g, 3, none⟩ = some (.string (mkB (List.replicate (4091 + r) x)))) := Lib.hid fun w' h => by rw [h.cell (p := ⟨g, 3, none⟩) hg]; exact hcell
            clear hcell hg
            have hts : (mkB (List.replicate (4091 + r) x)).size = 4091 + r := by rw [mkB_size]; simp
            generalize mkB (List.replicate (4091 + r) x) = T at *
            have hti : ((T.size : Nat) : Int) = 4091 + ((r : Nat) : Int) := by omega
            have hq5 : ¬ (5 : Int) < ((r : Nat) : Int) := by omega
            clear HI
            rcases Nat.lt_or_ge r 5 with h5 | h5
            · have hdi : decide ((60 : Int) + ((r : Nat) : Int) ≤ 64) = true := by simp; omega
              have hd : decide (60 + r ≤ 64) = true := by simp; omega
              rw [hd]
              clear hd
              go_wp2_with fail
              have hbx := below1 w6 (.cells #[.int .i64 k6, .string t6, .bool n6, .slice lv6 len6 cap6, .slice none 0 0, .int .i64 0] 28)
              have HBX := Lib.hid (HB6.out.trans (hbx.mono HB6.out.size))
              have HBY := Lib.hid (HB36.out.trans (hbx.mono HB36.out.size))
              clear hbx
              refine (tanswers_any _ (HT.out.below HBX.out) (HW.out.below HBX.out) (HM.out.below HBX.out)).mono ?_
              rintro e w8 ⟨rfl, hb8⟩
              have HB8 := Lib.hid (HBX.out.trans (hb8.mono HBX.out.size))
              have hc8 := HC.out w8 (HBY.out.trans (hb8.mono HBY.out.size))
              clear hb8
              go_wp2_with fail
              go_ret
              exact ⟨rfl, HB8.out⟩
            · obtain rfl : r = 5 := by omega
              have hd : decide (60 + 5 ≤ 64) = false := by decide
              rw [hd]
              clear hd
              go_wp2_with fail
              have hbx := below1 w6 (.cells #[.int .i64 k6, .string t6, .bool n6, .slice lv6 len6 cap6, .slice none 0 0, .int .i64 0] 28)
              have HBX := Lib.hid (HB6.out.trans (hbx.mono HB6.out.size))
              have HBY := Lib.hid (HB36.out.trans (hbx.mono HB36.out.size))
              clear hbx
              refine (tanswers_any _ (HT.out.below HBX.out) (HW.out.below HBX.out) (HM.out.below HBX.out)).mono ?_
              rintro e w8 ⟨rfl, hb8⟩
              have HB8 := Lib.hid (HBX.out.trans (hb8.mono HBX.out.size))
              have hc8 := HC.out w8 (HBY.out.trans (hb8.mono HBY.out.size))
              clear hb8
              go_wp2_with fail
              go_ret
              exact ⟨rfl, HB8.out⟩
          · have hq5 : (5 : Int) < ((r : Nat) : Int) := by omega
            have hdi : decide ((60 : Int) + ((r : Nat) : Int) ≤ 64) = false := by simp; omega
            have hd : decide (60 + r ≤ 64) = false := by simp; omega
            rw [hd]
            clear hd HI
            go_wp2_with fail
            have hbx := below1 w6 (.cells #[.int .i64 k6, .string t6, .bool n6, .slice lv6 len6 cap6, .slice none 0 0, .int .i64 0] 28)
            have HBX := Lib.hid (HB6.out.trans (hbx.mono HB6.out.size))
            have HBY := Lib.hid (HB36.out.trans (hbx.mono HB36.out.size))
            clear hbx
            refine (tanswers_any _ (HT.out.below HBX.out) (HW.out.below HBX.out) (HM.out.below HBX.out)).mono ?_
            rintro e w8 ⟨rfl, hb8⟩
            have HB8 := Lib.hid (HBX.out.trans (hb8.mono HBX.out.size))
            skip
            clear hb8
            go_wp2_with fail
            go_ret
            exact ⟨rfl, HB8.out⟩
end Go.Proofs.YthlfcdjlkglppaaDoor
namespace Go.Proofs.YthlfcdjlkglppaaDoor
open Go.RowKit
theorem long_int (c n : Int) (w : World) (ht : Tabs2 w) (hwd : Words w) (hmk : Marks w) (h0 : 0 ≤ c) (h1 : c ≤ 255) (h2 : 0 ≤ n) (h3 : n ≤ 255) :
    Calls Tryd.prog 6 #[.int .u8 c, .int .u8 n] w (TruePost w) := by
  obtain ⟨a, rfl⟩ := Int.eq_ofNat_of_zero_le h0
  obtain ⟨b, rfl⟩ := Int.eq_ofNat_of_zero_le h2
  exact long_any a b (by omega) (by omega) w ht hwd hmk
end Go.Proofs.YthlfcdjlkglppaaDoor
