/- The law TokenScans: same, and the law itself. | The characters of a text, as a row that the caller owns; the law TokenScans. -/
import Derived.Test.YtkocmjmmflphnaaGreatDoorTkCScan
import Derived.Deep.RegionHeldLaw
namespace Go.Proofs.YtkocmjmmflphnaaGreatDoor
open Go.RowKit

/-- The j-th of the document's words, its cells. -/
theorem TkSlR.at' {w : World} {B : Nat} {v : Value} {ps : List (Wd × Value)} (h : TkSlR w B v ps) {j : Nat} (hj : j < ps.length) : ∃ g cap, v = .slice (some ⟨g, 0, none⟩) ps.length cap ∧ ps.length ≤ cap ∧ g < w.heap.size ∧
    ∀ i u, (wdL (ps[j]).1 (ps[j]).2)[i]? = some u → w.cell? ⟨g, j * 9 + i, none⟩ = some u := by
  rcases h.own.2 with ⟨_, h0⟩ | ⟨g, cap, cur, rfl, _, hh, hc, _, _, ht, _⟩
  · omega
  · refine ⟨g, cap, rfl, hc, (Array.getElem?_eq_some_iff.1 hh).1, fun i u hu => ?_⟩
    rw [cell_of_row w g _ cur _ (0, 0) hh]
    have hi : i < 9 := by
      have := (List.getElem?_eq_some_iff.1 hu).1
      simpa [wdL] using this
    have key : ∀ (qs : List (Wd × Value)) (j : Nat) (hj : j < qs.length), (wcells qs)[j * 9 + i]? = (wdL (qs[j]).1 (qs[j]).2)[i]? := by
      intro qs
      induction qs with
      | nil => intro j hj; simp at hj
      | cons q qs ih =>
        intro j hj
        have e : wcells (q :: qs) = wdL q.1 q.2 ++ wcells qs := by simp [wcells]
        have hl : (wdL q.1 q.2).length = 9 := rfl
        rw [e]
        cases j with
        | zero => rw [List.getElem?_append_left (by omega)]; simp
        | succ j =>
          rw [List.getElem?_append_right (by omega), hl]
          rw [show (j + 1) * 9 + i - 9 = j * 9 + i by omega]
          rw [ih j (by simpa using hj)]
          rfl
    have := key ps j hj
    rw [hu, ← ht] at this
    rw [List.getElem?_take] at this
    split at this
    · simpa using this
    · cases this
theorem TkSlR.below {w w' : World} {B : Nat} {v : Value} {ps : List (Wd × Value)} (h : TkSlR w B v ps) (hb : Below w.heap.size w w') : TkSlR w' B v ps := ⟨h.own.below hb, fun p hp => (h.limbs p hp).below hb⟩

set_option maxRecDepth 100000 in
set_option maxHeartbeats 8000000 in
/-- The same words twice. -/
theorem lsame_any (va vb : Value) (B1 B2 : Nat) (ps qs : List (Wd × Value)) (w : World) (h1 : TkSl w B1 va ps) (h2 : TkSlR w B2 vb qs) (he : ps.map (·.1) = qs.map (·.1)) (hl : ps.length ≤ 2000000) :
    Calls Tryz.prog 8 #[va, vb] w fun e w' => e = .returned (.bool true) ∧ Below w.heap.size w w' := by
  have hlen : qs.length = ps.length := by have := congrArg List.length he; simpa using this.symm
  obtain ⟨a1, c1, rfl⟩ := OwnQ.slice h1.own
  obtain ⟨a2, c2, rfl⟩ := OwnQ.slice h2.own
  rw [hlen]
  have H1 := Lib.hid h1
  have H2 := Lib.hid h2
  have HE := Lib.hid he
  have HL := Lib.hid hlen
  clear h1 h2 he hlen
  have hne : (((ps.length : Nat) : Int) != ((ps.length : Nat) : Int)) = false := by simp
  go_enter Tryz.func8, Tryz.ntmps8
  go_wp2_with fail
  go_loopw [5] (fun v wr => ∃ k : Nat, k ≤ ps.length ∧ v = .int .i64 (k : Nat) ∧ Below w.heap.size w wr) (fun v _ => ps.length - (intOf v).toNat)
  case atStart => exact ⟨0, Nat.zero_le _, rfl, Below.refl _ _⟩
  case round =>
    obtain ⟨k, hk, rfl, hbel⟩ := hrel
    have HB := Lib.hid hbel
    have HT1 := Lib.hid (H1.out.below hbel)
    have HT2 := Lib.hid (H2.out.below hbel)
    clear hbel
    by_cases hkn : k < ps.length
    · have hki : ((k : Nat) : Int) < ((ps.length : Nat) : Int) := by omega
      obtain ⟨g1, e1, hv1, _, hg1, hcells⟩ := HT1.out.at' (j := k) hkn
      simp only [Value.slice.injEq, true_and] at hv1
      obtain ⟨rfl, rfl⟩ := hv1
      obtain ⟨g2, e2, hv2, _, hg2, hcells2⟩ := HT2.out.at' (j := k) (by rw [HL.out]; exact hkn)
      rw [HL.out] at hv2
      simp only [Value.slice.injEq, true_and] at hv2
      obtain ⟨rfl, rfl⟩ := hv2
      have hlb1 := HT1.out.limbs _ (List.getElem_mem hkn)
      have hlb2 := HT2.out.limbs _ (List.getElem_mem (show k < qs.length by rw [HL.out]; exact hkn))
      have hXY : (qs[k]'(by rw [HL.out]; exact hkn)).1 = (ps[k]'hkn).1 := by
        have h := congrArg (fun l => l[k]?) HE.out
        simp only [List.getElem?_map, List.getElem?_eq_getElem hkn, List.getElem?_eq_getElem (show k < qs.length by rw [HL.out]; exact hkn), Option.map_some] at h
        exact (Option.some.inj h).symm
      rw [hXY] at hcells2 hlb2
      generalize (ps[k]'hkn).1 = X at *
      generalize (ps[k]'hkn).2 = lv1 at *
      generalize (qs[k]'(by rw [HL.out]; exact hkn)).2 = lv2 at *
      clear hXY
      obtain ⟨Xk, Xt, ⟨Dk, Dt, Dn, Dr⟩, Xa, Xp⟩ := X
      simp only at hlb1 hlb2
      obtain ⟨o1, l1, rfl⟩ : ∃ o c, lv1 = .slice o Dr.length c := by obtain ⟨_, a, c, h, _⟩ := hlb1; exact ⟨a, c, h⟩
      obtain ⟨o2, l2, rfl⟩ : ∃ o c, lv2 = .slice o Dr.length c := by obtain ⟨_, a, c, h, _⟩ := hlb2; exact ⟨a, c, h⟩
      have HC : Hid (∀ W', Below wr.heap.size wr W' →
          ((W'.cell? ⟨g1, k * 9, none⟩ = some (.int .i64 (Xk : Nat)) ∧ W'.cell? ⟨g1, k * 9 + 1, none⟩ = some (.string (mkB Xt)) ∧ W'.cell? ⟨g1, k * 9 + 2, none⟩ = some (.int .i64 (Dk : Nat)) ∧ W'.cell? ⟨g1, k * 9 + 3, none⟩ = some (.string (mkB Dt)) ∧ W'.cell? ⟨g1, k * 9 + 4, none⟩ = some (.bool Dn) ∧ W'.cell? ⟨g1, k * 9 + 5, none⟩ = some (.slice o1 Dr.length l1) ∧ W'.cell? ⟨g1, k * 9 + 6, none⟩ = some (.slice none 0 0) ∧ W'.cell? ⟨g1, k * 9 + 7, none⟩ = some (.int .i64 (Xa : Nat)) ∧ W'.cell? ⟨g1, k * 9 + 8, none⟩ = some (.int .i64 (Xp : Nat))) ∧
           (W'.cell? ⟨g2, k * 9, none⟩ = some (.int .i64 (Xk : Nat)) ∧ W'.cell? ⟨g2, k * 9 + 1, none⟩ = some (.string (mkB Xt)) ∧ W'.cell? ⟨g2, k * 9 + 2, none⟩ = some (.int .i64 (Dk : Nat)) ∧ W'.cell? ⟨g2, k * 9 + 3, none⟩ = some (.string (mkB Dt)) ∧ W'.cell? ⟨g2, k * 9 + 4, none⟩ = some (.bool Dn) ∧ W'.cell? ⟨g2, k * 9 + 5, none⟩ = some (.slice o2 Dr.length l2) ∧ W'.cell? ⟨g2, k * 9 + 6, none⟩ = some (.slice none 0 0) ∧ W'.cell? ⟨g2, k * 9 + 7, none⟩ = some (.int .i64 (Xa : Nat)) ∧ W'.cell? ⟨g2, k * 9 + 8, none⟩ = some (.int .i64 (Xp : Nat))))) := Lib.hid fun W' hW =>
        ⟨⟨(hW.cell (p := ⟨g1, k * 9, none⟩) hg1).trans (hcells 0 _ rfl), (hW.cell (p := ⟨g1, k * 9 + 1, none⟩) hg1).trans (hcells 1 _ rfl), (hW.cell (p := ⟨g1, k * 9 + 2, none⟩) hg1).trans (hcells 2 _ rfl), (hW.cell (p := ⟨g1, k * 9 + 3, none⟩) hg1).trans (hcells 3 _ rfl), (hW.cell (p := ⟨g1, k * 9 + 4, none⟩) hg1).trans (hcells 4 _ rfl), (hW.cell (p := ⟨g1, k * 9 + 5, none⟩) hg1).trans (hcells 5 _ rfl), (hW.cell (p := ⟨g1, k * 9 + 6, none⟩) hg1).trans (hcells 6 _ rfl), (hW.cell (p := ⟨g1, k * 9 + 7, none⟩) hg1).trans (hcells 7 _ rfl), (hW.cell (p := ⟨g1, k * 9 + 8, none⟩) hg1).trans (hcells 8 _ rfl)⟩,
         ⟨(hW.cell (p := ⟨g2, k * 9, none⟩) hg2).trans (hcells2 0 _ rfl), (hW.cell (p := ⟨g2, k * 9 + 1, none⟩) hg2).trans (hcells2 1 _ rfl), (hW.cell (p := ⟨g2, k * 9 + 2, none⟩) hg2).trans (hcells2 2 _ rfl), (hW.cell (p := ⟨g2, k * 9 + 3, none⟩) hg2).trans (hcells2 3 _ rfl), (hW.cell (p := ⟨g2, k * 9 + 4, none⟩) hg2).trans (hcells2 4 _ rfl), (hW.cell (p := ⟨g2, k * 9 + 5, none⟩) hg2).trans (hcells2 5 _ rfl), (hW.cell (p := ⟨g2, k * 9 + 6, none⟩) hg2).trans (hcells2 6 _ rfl), (hW.cell (p := ⟨g2, k * 9 + 7, none⟩) hg2).trans (hcells2 7 _ rfl), (hW.cell (p := ⟨g2, k * 9 + 8, none⟩) hg2).trans (hcells2 8 _ rfl)⟩⟩
      have HL1 := Lib.hid (hlb1.below (Below.refl wr.heap.size wr).drew)
      have HL2 := Lib.hid (hlb2.below (Below.refl wr.heap.size wr).drew)
      clear hcells hcells2 hlb1 hlb2
      have hT : ((mkB Xt).toList != (mkB Xt).toList) = false := by simp
      have hK : (((Xk : Nat) : Int) != ((Xk : Nat) : Int)) = false := by simp
      have hP : (((Xp : Nat) : Int) != ((Xp : Nat) : Int)) = false := by simp
      have hA : (((Xa : Nat) : Int) != ((Xa : Nat) : Int)) = false := by simp
      have hall := HC.out wr.drew (Below.refl _ _).drew
      have HD0 := Lib.hid (Below.refl wr.heap.size wr).drew
      go_wp2_with fail
      go_region_held_law (fun W' => (W'.cell? ⟨g1, k * 9, none⟩ = some (.int .i64 (Xk : Nat)) ∧ W'.cell? ⟨g1, k * 9 + 1, none⟩ = some (.string (mkB Xt)) ∧ W'.cell? ⟨g1, k * 9 + 2, none⟩ = some (.int .i64 (Dk : Nat)) ∧ W'.cell? ⟨g1, k * 9 + 3, none⟩ = some (.string (mkB Dt)) ∧ W'.cell? ⟨g1, k * 9 + 4, none⟩ = some (.bool Dn) ∧ W'.cell? ⟨g1, k * 9 + 5, none⟩ = some (.slice o1 Dr.length l1) ∧ W'.cell? ⟨g1, k * 9 + 6, none⟩ = some (.slice none 0 0) ∧ W'.cell? ⟨g1, k * 9 + 7, none⟩ = some (.int .i64 (Xa : Nat)) ∧ W'.cell? ⟨g1, k * 9 + 8, none⟩ = some (.int .i64 (Xp : Nat))) ∧
           (W'.cell? ⟨g2, k * 9, none⟩ = some (.int .i64 (Xk : Nat)) ∧ W'.cell? ⟨g2, k * 9 + 1, none⟩ = some (.string (mkB Xt)) ∧ W'.cell? ⟨g2, k * 9 + 2, none⟩ = some (.int .i64 (Dk : Nat)) ∧ W'.cell? ⟨g2, k * 9 + 3, none⟩ = some (.string (mkB Dt)) ∧ W'.cell? ⟨g2, k * 9 + 4, none⟩ = some (.bool Dn) ∧ W'.cell? ⟨g2, k * 9 + 5, none⟩ = some (.slice o2 Dr.length l2) ∧ W'.cell? ⟨g2, k * 9 + 6, none⟩ = some (.slice none 0 0) ∧ W'.cell? ⟨g2, k * 9 + 7, none⟩ = some (.int .i64 (Xa : Nat)) ∧ W'.cell? ⟨g2, k * 9 + 8, none⟩ = some (.int .i64 (Xp : Nat))))
        (first | exact hall | exact hall2)
        (first
          | (go_simp; go_at_call 24; refine (rsame_leaf Dk Dt Dn Dr Xa l1 Xa l2 o1 o2 _ HL1.out HL2.out).mono ?_; rintro e w12 ⟨rfl, hb12⟩; have hb13 := HD0.out.trans (hb12.mono HD0.out.size); have hall2 := HC.out _ hb13; replace hb13 := Lib.hid hb13; clear hb12))
      all_goals
        go_wp2_with fail
        go_roundw
        case measure => simp only [intOf]; omega
        case rel => exact ⟨k + 1, by omega, by go_num, HB.out.trans (hb13.out.mono HB.out.size)⟩
    · obtain rfl : k = ps.length := by omega
      go_wp2_with fail
      go_ret
      exact ⟨rfl, HB.out⟩
end Go.Proofs.YtkocmjmmflphnaaGreatDoor
namespace Go.Proofs.YtkocmjmmflphnaaGreatDoor
open Go.RowKit

def CharsOPost (bs : List Nat) (w : World) (e : Ending) (w' : World) : Prop :=
  ∃ v, e = .returned (.tuple #[v, .int .i64 (chA bs).2]) ∧ w'.ownsRow w.heap.size 3 1 v (chA bs).1.length ((chA bs).1.map fun (x : Nat) => Value.int .i64 (x : Int)) ∧ Below w.heap.size w w'
theorem CharsOPost.mk {bs : List Nat} {w w' : World} {v : Value} {cs : List Nat} {z : Int} (h : chA bs = (cs, z)) (hs : w'.ownsRow w.heap.size 3 1 v cs.length (cs.map fun (x : Nat) => Value.int .i64 (x : Int))) (hb : Below w.heap.size w w') : CharsOPost bs w (.returned (.tuple #[v, .int .i64 z])) w' := by
  refine ⟨v, by rw [h], by rw [h]; exact hs, hb⟩
theorem nc_map (cs : List Nat) : nc cs = cs.map fun (x : Nat) => Value.int .i64 (x : Int) := by unfold nc intCells; rw [List.map_map]; rfl
theorem owns_base {w : World} {base base' : Nat} {e : TypeId} {size : Nat} {v : Value} {n : Nat} {xs : List Value} (h : w.ownsRow base e size v n xs) (hb : base' ≤ base) : w.ownsRow base' e size v n xs := by
  refine ⟨h.1, ?_⟩
  rcases h.2 with hn | ⟨g, cap, cur, h1, h2, h3⟩
  · exact .inl hn
  · exact .inr ⟨g, cap, cur, h1, Nat.le_trans hb h2, h3⟩

set_option maxRecDepth 100000 in
set_option maxHeartbeats 1000000 in
theorem rchars_own (sv : Value) (bs : List Nat) (w : World) (hs : Sl .u8 w sv bs) (hby : By bs) (hl : bs.length ≤ 1000000000000) :
    Calls Tryz.prog 9 #[sv] w (CharsOPost bs w) := by
  obtain ⟨i0, hi, hz0, hz1, hz2⟩ := info_parts infoInt
  have HS := Lib.hid hs
  obtain ⟨hm, ao, cap, rfl, hcap, h⟩ := hs
  unfold maxLen at hm
  have HY := Lib.hid hby; clear hby
  have HC : Hid (∀ j, j < bs.length → ∃ b off, ao = some ⟨b, off, none⟩ ∧ b < w.heap.size ∧ ∀ j, j < bs.length → w.cell? ⟨b, off + j, none⟩ = some (.int .u8 ((limb bs j : Nat) : Int))) := Lib.hid fun j hj => by
    rcases h with ⟨h, _⟩ | ⟨b, off, h1, h2, h3⟩
    · rw [h] at hj; simp at hj
    · exact ⟨b, off, h1, h2, h3⟩
  clear h
  go_enter Tryz.func9, Tryz.ntmps9
  go_wp2_with fail
  go_loopw [4, 5] (fun v i wr => ∃ cs k, i = .int .i64 (k : Nat) ∧ Chr bs cs k ∧ wr.ownsRow w.heap.size 3 1 v cs.length (cs.map fun (x : Nat) => Value.int .i64 (x : Int)) ∧ Below w.heap.size w wr) (fun _ i _ => bs.length - (intOf i).toNat)
  case atStart => exact ⟨[], 0, rfl, Chr.start bs, World.ownsRow_nil _ _ _ _, Below.refl _ _⟩
  case round =>
    obtain ⟨cs, k, rfl, hchr, hown, hbel⟩ := hrel
    have hk := hchr.le
    have hlen := hchr.len
    by_cases hkn : k < bs.length
    · obtain ⟨b, off, hao, hb, hc⟩ := HC.out k hkn
      subst hao
      have HCW : Hid (∀ j, j < bs.length → wr.cell? ⟨b, off + j, none⟩ = some (.int .u8 ((limb bs j : Nat) : Int))) := Lib.hid fun j hj => by
        rw [hbel.cell (p := ⟨b, off + j, none⟩) hb]; exact hc j hj
      clear hc
      have HCH := Lib.hid hchr; clear hchr
      have hz := dc_size bs k
      have hch := dc_char bs k
      have hin := dc_in hkn
      go_wp2_with fail
      refine (one_any b off cap k bs wr hkn (by omega) HY.out HCW.out).mono ?_
      rintro e w1 ⟨rfl, hb1⟩
      have hbw : Below w.heap.size w w1 := hbel.trans (hb1.mono hbel.size)
      have HOW := Lib.hid (owns_below hown hb1)
      cases hbad : badB (dc bs k)
      · have HB := Lib.hid hbad
        rw [oneA_ok hbad]
        clear hbad hb1 hown
        have hn0 : ((((dc bs k).2 : Nat) : Int) == 0) = false := by rw [beq_eq_false_iff_ne]; omega
        have hl2 : cs.length < 1000000000001 := by omega
        have HI := Lib.hid (HCH.out.step hkn HB.out)
        have hsz := hbw.size
        go_wp2_with (at_builtin; go_loud (refine wpList_append_own _ rfl _ _ 22 rfl w.heap.size 3 i0 (.int .i64 0) 1 8 Tryz.underlying22 hi hz0 hz1 hz2 rfl (by decide) _ cs.length (cs.map fun (x : Nat) => Value.int .i64 (x : Int)) rfl (HOW.out.alloc _) ⟨w1.heap.size, 0, none⟩ 1 1 [.int .i64 ((dc bs k).1 : Nat)] rfl (by simp) (cell_one_new _ _ _) (by intro u hu; rw [List.mem_singleton] at hu; subst hu; rfl) (by unfold maxLen; omega) (by omega) (by simp; omega) ?_); intro v' w2 hown1 hgrow hnil; clear hnil)
        go_roundw
        case rel =>
          have e1 : (List.map (fun (x : Nat) => Value.int .i64 (x : Int)) cs ++ [.int .i64 ((dc bs k).1 : Nat)]) = (cs ++ [(dc bs k).1]).map fun (x : Nat) => Value.int .i64 (x : Int) := by simp
          have e2 : cs.length + 1 = (cs ++ [(dc bs k).1]).length := by simp
          rw [e1, e2] at hown1
          have hlo := HOW.out.lt
          have hgrow' : World.grownBy _ w2 (Value.ownBlock _) := hgrow
          exact ⟨cs ++ [(dc bs k).1], k + (dc bs k).2, by go_num, HI.out, hown1, (hbw.alloc hbw.size _).grown hgrow' (by simp; omega) (fun k hk => by have := (hlo k hk).1; omega)⟩
        case measure => simp only [intOf]; omega
      · have HB := Lib.hid hbad
        rw [oneA_bad hbad]
        clear hbad hb1 hown
        go_wp2
        go_ret2
        exact CharsOPost.mk (chA_bad (HCH.out.bad hkn HB.out)) (World.ownsRow_nil _ _ _ _) hbw
    · obtain hkl : bs.length ≤ k := by omega
      have HD := Lib.hid (hchr.done hkl); clear hchr
      have HOWN := Lib.hid hown
      clear hown
      go_wp2
      go_ret2
      exact CharsOPost.mk (chA_ok HD.out) HOWN.out hbel

set_option maxRecDepth 100000 in
set_option maxHeartbeats 2000000 in
theorem lchars_own (s : ByteArray) (w : World) (hs : s.size ≤ 100000000) :
    Calls Tryz.prog 4 #[.string s] w fun e w' => ∃ v, e = .returned v ∧ w'.ownsRow w.heap.size 3 1 v (chA (byt s)).1.length (nc (chA (byt s)).1) ∧ Below w.heap.size w w' := by
  have HSZ := Lib.hid hs; clear hs
  go_enter Tryz.func4, Tryz.ntmps4
  have hconv := run_bytes_of_string (P := Tryz.prog) w 9 36 5 s Tryz.underlying9 Tryz.underlying36 Tryz.underlying5
  have hcap := grownCap_ge w s.size 0 5
  go_wp2_with fail
  generalize hG : grownCap w s.size 0 5 = cap at *
  have hsl := row_slS (w := w) (e := 5) (W := (w.alloc (Obj.cells (bytesRow s cap) 5 ((bytesRow s cap).size, (bytesRow s cap).size + 1))).drew) (heap_alloc_new w _) hcap (by have := HSZ.out; omega)
  have hbq : Below w.heap.size w ((w.alloc (Obj.cells (bytesRow s cap) 5 ((bytesRow s cap).size, (bytesRow s cap).size + 1))).drew) := (below1 w _).drew
  refine (rchars_own _ (byt s) _ hsl (byt_by s) (by rw [byt_len]; have := HSZ.out; omega)).mono ?_
  rintro e w4 ⟨v, rfl, hv, hb⟩
  have hb4 : Below w.heap.size w w4 := hbq.trans (hb.mono (by simp))
  rw [← nc_map] at hv
  have HV := Lib.hid (owns_base hv hbq.size)
  obtain ⟨oa, oc, rfl⟩ := own_slice HV.out
  clear hsl hbq hb hconv hG hcap hv
  go_wp2_with fail
  go_ret
  exact ⟨_, rfl, HV.out, hb4⟩

theorem chA_len2 (bs : List Nat) (hby : By bs) : (chA bs).1.length ≤ bs.length := by
  cases hc : (chars bs 0).2 with
  | none =>
    have e : chars bs 0 = ((chars bs 0).1, none) := by rw [← hc]
    rw [chA_ok e]
    have h := (enc_chars hby _ 0 _ (Nat.le_refl _) (Nat.zero_le _) e).1
    rw [List.drop_zero] at h
    have := enc_ge' (chars bs 0).1
    rw [h] at this
    exact this
  | some k => rw [chA_bad hc]; simp
theorem intCells_app (a b : List Int) : intCells (a ++ b) = intCells a ++ intCells b := by simp [intCells]

set_option maxRecDepth 100000 in
set_option maxHeartbeats 4000000 in
theorem scans_any (s : ByteArray) (v : Value) (more : List Int) (w : World) (hs : s.size ≤ 1048576) (hv : SlV w v (intCells more)) (hm : more.length ≤ 1048576) (ht : Tabs2 w) (hwd : Words w) (hmk : Marks w) :
    Calls Tryz.prog 3 #[.string s, v] w (TruePost w) := by
  obtain ⟨i0, hi, hz0, hz1, hz2⟩ := info_parts infoInt
  have HT := Lib.hid ht; clear ht
  have HW := Lib.hid hwd; clear hwd
  have HM := Lib.hid hmk; clear hmk
  have HV := Lib.hid hv
  obtain ⟨_, av, cv, rfl, _, _⟩ := hv
  go_enter Tryz.func3, Tryz.ntmps3
  go_wp2_with fail
  refine (lchars_own s w (by omega)).mono ?_
  rintro e w1 ⟨v1, rfl, hown1, hb⟩
  have HB1 := Lib.hid hb
  have HCL : Hid ((chA (byt s)).1.length ≤ 1048576) := Lib.hid (by have := chA_len2 (byt s) (byt_by s); rw [byt_len] at this; omega)
  generalize (chA (byt s)).1 = cs at *
  have HO1 := Lib.hid hown1
  have HV1 := Lib.hid (HV.out.below hb)
  have hbs := hb.size
  clear hown1 hb
  have HIL := Lib.hid (intCells_len more)
  have hlo := HO1.out.lt
  obtain ⟨zs, hzs⟩ : ∃ zs, zs = (cs.map fun (c : Nat) => (c : Int)) ++ more := ⟨_, rfl⟩
  have HE2 : Hid (nc cs ++ intCells more = intCells zs) := Lib.hid (by rw [hzs, intCells_app]; rfl)
  have HE3 : Hid (cs.length + (intCells more).length = zs.length) := Lib.hid (by rw [hzs]; simp [intCells])
  have HZL : Hid (zs.length ≤ 2097152) := Lib.hid (by rw [hzs]; have := HCL.out; simp; omega)
  clear hzs
  by_cases h20 : 20000 < zs.length
  · have h20i : (20000 : Int) < ((zs.length : Nat) : Int) := by omega
    clear h20
    go_wp2_with (at_builtin; refine wpList_append_slv rfl _ _ 22 rfl w.heap.size 3 i0 (.int .i64 0) 8 Tryz.underlying22 hi hz0 hz1 hz2 rfl _ cs.length (nc cs) rfl HO1.out _ (intCells more) (intCells_one _) rfl HV1.out (by rw [HIL.out]; have := HCL.out; unfold maxLen; omega) (by rw [HIL.out]; have := HCL.out; omega) hbs ?_; intro v2 w2 hown2 hgrow; rw [HE2.out, HE3.out] at hown2; have HB2 := Lib.hid (HB1.out.grown hgrow hbs (fun k hk => (hlo k hk).1)); have HO2 := Lib.hid hown2; obtain ⟨a2, c2, rfl⟩ := own_slice HO2.out; clear hown2 hgrow)
    refine (tanswers_any _ (HT.out.below HB2.out) (HW.out.below HB2.out) (HM.out.below HB2.out)).mono ?_
    rintro e w3 ⟨rfl, hb⟩
    have HB3 := Lib.hid (HB2.out.trans (hb.mono HB2.out.size))
    clear hb
    go_wp2_with fail
    go_ret
    exact ⟨rfl, HB3.out⟩
  · have h20i : ¬ (20000 : Int) < ((zs.length : Nat) : Int) := by omega
    go_wp2_with (first | (at_builtin; refine wpList_append_slv rfl _ _ 22 rfl w.heap.size 3 i0 (.int .i64 0) 8 Tryz.underlying22 hi hz0 hz1 hz2 rfl _ cs.length (nc cs) rfl HO1.out _ (intCells more) (intCells_one _) rfl HV1.out (by rw [HIL.out]; have := HCL.out; unfold maxLen; omega) (by rw [HIL.out]; have := HCL.out; omega) hbs ?_; intro v2 w2 hown2 hgrow; rw [HE2.out, HE3.out] at hown2; have HB2 := Lib.hid (HB1.out.grown hgrow hbs (fun k hk => (hlo k hk).1)); have HO2 := Lib.hid hown2; obtain ⟨a2, c2, rfl⟩ := own_slice HO2.out; clear hown2 hgrow; have HV2 := Lib.hid (owns_slv HO2.out); have hs2 := HB2.out.size; have hown3 : (w2.alloc (.cells #[] 3)).ownsRow w2.heap.size 3 1 (.slice (some ⟨w2.heap.size, 0, none⟩) 0 0) 0 [] := World.ownsRow_lit w2 #[] 0 (Nat.le_refl _) (by decide) rfl; have HO3 := Lib.hid hown3; have HX3 := Lib.hid (below1 w2 (.cells #[] 3)); have HV3 := Lib.hid (HV2.out.below HX3.out); have hl3 : w2.heap.size ≤ (w2.alloc (.cells #[] 3)).heap.size := HX3.out.size; have HIL := Lib.hid (intCells_len zs); clear hown3) | (at_builtin; refine wpList_append_slv rfl _ _ 22 rfl w2.heap.size 3 i0 (.int .i64 0) 8 Tryz.underlying22 hi hz0 hz1 hz2 rfl _ 0 [] rfl HO3.out _ (intCells zs) (intCells_one _) rfl HV3.out (by rw [HIL.out]; unfold maxLen; omega) (by rw [HIL.out]; omega) hl3 ?_; intro v4 w4 hown4 hgrow))
    have hlo := HO3.out.lt
    have HX4 := Lib.hid (HX3.out.grown hgrow hl3 (fun k hk => (hlo k hk).1))
    rw [List.nil_append] at hown4
    have hsv4 := owns_slv hown4
    have HB4 := Lib.hid (HB2.out.trans (HX4.out.mono hs2))
    have HV4 := Lib.hid (HV2.out.below HX4.out)
    have hcall := scan_any v4 zs w4 hsv4 (by omega) (HT.out.below HB4.out) (HW.out.below HB4.out) (HM.out.below HB4.out)
    clear hown4 hgrow hlo hsv4 HO3 HX3 HV3 hl3 HO2 HX4 HV2
    go_wp2_with fail
    refine hcall.mono ?_
    rintro e w5 ⟨v5, ps, rfl, hps, htk, hpl, hb⟩
    have HB5 := Lib.hid (HB4.out.trans (hb.mono HB4.out.size))
    have HV5 := Lib.hid (HV4.out.below hb)
    have HPS := Lib.hid hps
    have HTK := Lib.hid htk
    obtain ⟨a5, c5, rfl⟩ := OwnQ.slice htk.own
    clear hcall hb hps htk HV4
    have hcall := rscan_any _ zs w5 HV5.out (by omega)
    go_wp2_with fail
    refine hcall.mono ?_
    rintro e w6 ⟨v6, qs, rfl, hqs, htq, _, hb⟩
    have HB6 := Lib.hid (HB5.out.trans (hb.mono HB5.out.size))
    have HTK6 := Lib.hid (HTK.out.below hb)
    have HQS := Lib.hid hqs
    have HTQ := Lib.hid htq
    obtain ⟨a6, c6, rfl⟩ := OwnQ.slice htq.own
    clear hcall hb hqs htq HTK HV5
    generalize hz1' : (scanA zs).2.1 = z1 at *
    generalize hz2' : (scanA zs).2.2 = z2 at *
    clear hz1' hz2'
    go_wp2_with fail
    refine (tanswers_any _ (HT.out.below HB6.out) (HW.out.below HB6.out) (HM.out.below HB6.out)).mono ?_
    rintro e w7 ⟨rfl, hb⟩
    have HB7 := Lib.hid (HB6.out.trans (hb.mono HB6.out.size))
    have hcall := lsame_any _ _ _ _ ps qs w7 (HTK6.out.below hb) (HTQ.out.below hb) (HPS.out.trans HQS.out.symm) hpl
    clear hb
    have hq1 : (z1 == z1) = true := by simp
    have hq2 : (((z2 : Nat) : Int) == ((z2 : Nat) : Int)) = true := by simp
    go_wp2_with fail
    refine hcall.mono ?_
    rintro e w8 ⟨rfl, hb⟩
    have HB8 := Lib.hid (HB7.out.trans (hb.mono HB7.out.size))
    clear hb hcall
    go_wp2_with fail
    go_ret
    exact ⟨rfl, HB8.out⟩
end Go.Proofs.YtkocmjmmflphnaaGreatDoor
