/- The document's soundWrap, SoundWrap. | The document's Join. | ref09.flat, Sound, Ident: the document's answer to which pieces may be. | ref09.Sound, Ident. | Strip, of the program and of the document; Compound. -/
import Derived.Test.YtbfcbicbeagjkaaGreatDoorWpSnd
import Derived.Test.YtbfcbicbeagjkaaGreatDoorWpCat
import Derived.Test.YtbfcbicbeagjkaaGreatDoorSxBare
import Derived.Test.YtbfcbicbeagjkaaGreatDoorSxJn
namespace Go.Proofs.YtbfcbicbeagjkaaGreatDoor
open Go.RowKit

/-- A slice of ints that is read by index, in any world that keeps what was there. -/
theorem Iz.row {w : World} {v : Value} {zs : List Int} (h : Iz w v zs) : zs.length ≤ maxLen ∧ ∃ ao cap, v = .slice ao zs.length cap ∧ zs.length ≤ cap ∧ (zs = [] ∨ ∃ b off, ao = some ⟨b, off, none⟩ ∧ b < w.heap.size ∧ ∀ j, j < zs.length → w.cell? ⟨b, off + j, none⟩ = some (.int .i64 (gz zs j))) := by
  obtain ⟨hm, ao, cap, hv, hc, hr⟩ := h.cases
  refine ⟨hm, ao, cap, hv, hc, ?_⟩
  rcases hr with ⟨h0, _⟩ | h0
  · exact .inl h0
  · exact .inr h0
/-- In one form for empty ones, too. -/
theorem Iz.read {w : World} {v : Value} {zs : List Int} (h : Iz w v zs) : zs.length ≤ maxLen ∧ ∃ ao cap, v = .slice ao zs.length cap ∧ zs.length ≤ cap ∧ ∀ j, j < zs.length → ∃ b off, ao = some ⟨b, off, none⟩ ∧ b < w.heap.size ∧ w.cell? ⟨b, off + j, none⟩ = some (.int .i64 (gz zs j)) := by
  obtain ⟨hm, ao, cap, hv, hc, hr⟩ := h.row
  refine ⟨hm, ao, cap, hv, hc, fun j hj => ?_⟩
  rcases hr with h0 | ⟨b, off, h1, h2, h3⟩
  · rw [h0] at hj; simp at hj
  · exact ⟨b, off, h1, h2, h3 j hj⟩

set_option maxRecDepth 100000 in
set_option maxHeartbeats 2000000 in
theorem rsoundw_any (mv sv : Value) (m s : List Int) (w : World) (hm : Iz w mv m) (hs : Iz w sv s) :
    Calls Tryz.prog 59 #[mv, sv] w fun e w' => e = .returned (.bool (sndS m s)) ∧ w = w' := by
  obtain ⟨hml, bo, bc, rfl, hbc, hmr⟩ := hm.read
  obtain ⟨hsl, ao, ac, rfl, hac, hsr⟩ := hs.read
  unfold maxLen at hml hsl
  obtain ⟨n, hn⟩ : ∃ n, n = s.length := ⟨_, rfl⟩
  obtain ⟨l, hl⟩ : ∃ l, l = m.length := ⟨_, rfl⟩
  rw [← hn] at hsl hac hsr
  rw [← hl] at hml hbc hmr
  rw [← hn, ← hl]
  have HLM := Lib.hid hl
  have HN := Lib.hid hn
  have HS := Lib.hid hsr
  have HM := Lib.hid hmr
  clear hm hs hn hl hsr hmr
  go_enter Tryz.func59, Tryz.ntmps59
  go_wp2_with fail
  go_loopw [6, 5] (fun i c wr => ∃ k q : Nat, k ≤ n ∧ q ≤ k ∧ i = .int .i64 k ∧ c = .int .i64 q ∧ wr = w ∧ q = zc (s.take k) ∧ ∀ j, j < k → 0 ≤ gz s j) (fun i _ _ => n - (intOf i).toNat)
  case atStart => exact ⟨0, 0, Nat.zero_le _, Nat.le_refl _, rfl, rfl, rfl, rfl, fun j hj => by omega⟩
  case round =>
    obtain ⟨k, q, hk, hqk, rfl, rfl, rfl, hq, hall⟩ := hrel
    have HL := Lib.hid hall; clear hall
    have HQ := Lib.hid hq; clear hq
    by_cases hkl : k < n
    · obtain ⟨b, off, rfl, hb, c1⟩ := HS.out k hkl
      have hst := zc_step (ss := s) (k := k) (by have := HN.out; omega)
      by_cases hneg : gz s k < 0
      · have HV := Lib.hid (sbsB_false (ss := s) (j := k) (by have := HN.out; omega) hneg)
        clear hst hb
        go_wp2_with fail
        go_ret
        exact ⟨ret_bl (by unfold sndS; rw [HV.out, Bool.false_and, Bool.and_false]), rfl⟩
      · by_cases h0 : gz s k = 0
        · rw [if_pos h0] at hst
          have HS := Lib.hid hst; clear hst
          have h0b : (gz s k == 0) = true := by rw [h0]; rfl
          have HN0 := Lib.hid h0; clear h0 hb
          go_wp2_with fail
          go_roundw
          case rel => exact ⟨k + 1, q + 1, by omega, by omega, by go_num, by go_num, (by first | rfl | trivial), by rw [HS.out, HQ.out], fun j hj => by
            by_cases e : j = k
            · subst e; rw [HN0.out]; omega
            · exact HL.out j (by omega)⟩
          case measure => simp only [intOf]; omega
        · rw [if_neg h0] at hst
          have HS := Lib.hid hst; clear hst hb
          have h0b : (gz s k == 0) = false := by rw [beq_eq_false_iff_ne]; exact h0
          go_wp2_with fail
          go_roundw
          case rel => exact ⟨k + 1, q, by omega, by omega, by go_num, by go_num, (by first | rfl | trivial), by rw [HS.out, HQ.out]; rfl, fun j hj => by
            by_cases e : j = k
            · subst e; omega
            · exact HL.out j (by omega)⟩
          case measure => simp only [intOf]; omega
    · have HV := Lib.hid (sbsB_true (ss := s) fun j hj => HL.out j (by have := HN.out; omega))
      have hkn : k = s.length := by have := HN.out; omega
      have HZ : Hid (q = zc s) := Lib.hid (by rw [HQ.out, hkn, List.take_length])
      clear hkn
      obtain ⟨W0, hW0⟩ : ∃ W0, W0 = wr := ⟨_, rfl⟩
      subst hW0
      go_wp2_with fail
      go_loopw [7] (fun i w2 => ∃ k : Nat, k ≤ l ∧ i = .int .i64 k ∧ w2 = W0 ∧ ∀ j, j < k → markB (gz m j) j = true) (fun i _ => l - (intOf i).toNat)
      case atStart => exact ⟨0, Nat.zero_le _, rfl, rfl, fun j hj => by omega⟩
      case round =>
        obtain ⟨k, hk, rfl, rfl, hall⟩ := hrel
        have HM2 := Lib.hid hall; clear hall
        by_cases hkl2 : k < l
        · obtain ⟨b, off, rfl, hb, c1⟩ := HM.out k hkl2
          have hkm : k < m.length := by have := HLM.out; omega
          have HKM := Lib.hid hkm
          clear hkm hb
          by_cases hpos : 0 < gz m k
          · have hmk : markB (gz m k) k = true := by unfold markB; rw [decide_eq_true hpos]; rfl
            have HMK := Lib.hid hmk
            clear hmk
            have hlt1 : ¬ gz m k < 1 := by omega
            go_wp2_with fail
            go_roundw
            case rel => exact ⟨k + 1, by omega, by go_num, (by first | rfl | trivial), fun j hj => by
              by_cases e : j = k
              · subst e; exact HMK.out
              · exact HM2.out j (by omega)⟩
            case measure => simp only [intOf]; omega
          · have hlt1 : gz m k < 1 := by omega
            by_cases hk0 : k = 0
            · have hkb : (((k : Nat) : Int) == 0) = true := by rw [hk0]; rfl
              by_cases hm1 : gz m k = -1
              · have hmk : markB (gz m k) k = true := by unfold markB; rw [hm1, hk0]; rfl
                have HMK := Lib.hid hmk
                have hmb : (gz m k == -1) = true := by rw [hm1]; rfl
                clear hmk hk0 hm1
                go_wp2_with fail
                go_roundw
                case rel => exact ⟨k + 1, by omega, by go_num, (by first | rfl | trivial), fun j hj => by
                  by_cases e : j = k
                  · subst e; exact HMK.out
                  · exact HM2.out j (by omega)⟩
                case measure => simp only [intOf]; omega
              · have hmk : markB (gz m k) k = false := by unfold markB; rw [decide_eq_false hpos, decide_eq_false hm1]; rfl
                have HV2 := Lib.hid (mksB_false HKM.out hmk)
                have hmb : (gz m k == -1) = false := by rw [beq_eq_false_iff_ne]; exact hm1
                clear hmk hk0 hm1
                go_wp2_with fail
                go_ret
                exact ⟨ret_bl (by unfold sndS; rw [HV2.out]; rfl), rfl⟩
            · have hkb : (((k : Nat) : Int) == 0) = false := by rw [beq_eq_false_iff_ne]; omega
              have hmk : markB (gz m k) k = false := by unfold markB; rw [decide_eq_false hpos, decide_eq_false hk0, Bool.and_false]; rfl
              have HV2 := Lib.hid (mksB_false HKM.out hmk)
              clear hmk hk0
              go_wp2_with fail
              go_ret
              exact ⟨ret_bl (by unfold sndS; rw [HV2.out]; rfl), rfl⟩
        · have HV2 := Lib.hid (mksB_true (m := m) fun j hj => HM2.out j (by have := HLM.out; omega))
          go_wp2_with fail
          go_ret
          refine ⟨ret_bl ?_, rfl⟩
          unfold sndS
          rw [HV.out, HV2.out, ← HZ.out, ← HLM.out, Bool.eq_iff_iff]
          simp
          try omega

set_option maxRecDepth 100000 in
set_option maxHeartbeats 2000000 in
theorem wrsound_any (mv sv : Value) (m s : List Int) (w : World) (hm : Iz w mv m) (hs : Iz w sv s) :
    Calls Tryz.prog 19 #[mv, sv] w fun e w' => e = .returned (.bool (sndW m s)) ∧ w = w' := by
  have HM := Lib.hid hm
  have HS := Lib.hid hs
  obtain ⟨hml, bo, bc, rfl, hbc, _⟩ := hm.cases
  obtain ⟨hsl, ao, ac, rfl, hac, _⟩ := hs.cases
  unfold maxLen at hml hsl
  clear hm hs
  cases hl : lrgB m s with
  | true =>
    have HV : Hid (sndW m s = false) := Lib.hid (by unfold sndW; rw [hl]; rfl)
    have hc : 256 < m.length ∨ (m.length ≤ 256 ∧ 256 < s.length) := by unfold lrgB at hl; simp at hl; omega
    clear hl
    rcases hc with hc | ⟨hc, hc2⟩
    all_goals
      go_enter Tryz.func19, Tryz.ntmps19
      go_wp2_with fail
      go_ret
      exact ⟨ret_bl HV.out.symm, rfl⟩
  | false =>
    have HV : Hid (sndW m s = sndS m s) := Lib.hid (by unfold sndW; rw [hl]; rfl)
    have hc : m.length ≤ 256 ∧ s.length ≤ 256 := by unfold lrgB at hl; simp at hl; omega
    obtain ⟨hc1, hc2⟩ := hc
    clear hl
    go_enter Tryz.func19, Tryz.ntmps19
    go_wp2_with fail
    refine (rsoundw_any _ _ m s w HM.out HS.out).mono ?_
    rintro e w2 ⟨rfl, rfl⟩
    go_wp2_with fail
    go_ret
    exact ⟨ret_bl HV.out.symm, rfl⟩
end Go.Proofs.YtbfcbicbeagjkaaGreatDoor
namespace Go.Proofs.YtbfcbicbeagjkaaGreatDoor
open Go.RowKit

/-- Not in the old blocks. -/
def Nw (B : Nat) (v : Value) : Prop := ∀ b, v.ownBlock = some b → B ≤ b
theorem Nw.nil (B : Nat) : Nw B (.slice none 0 0) := fun b h => by cases h
end Go.Proofs.YtbfcbicbeagjkaaGreatDoor
namespace Go.Proofs.YtbfcbicbeagjkaaGreatDoor
open Go.RowKit

/-- A piece in the making: its box in block g, so many of its list's pieces behind one another. -/
structure SxS (Q : Nat → Prop) (B0 g : Nat) (w0 : World) (ls : List Sx) (v : Value) (j : Nat) (us : List Value) (W : World) : Prop where
  own : W.ownsRow (g + 1) 35 8 v j us
  row : SxRow (fun b => (Q b ∧ b ≠ g) ∧ v.ownBlock ≠ some b) W (ls.take j) us
  bel : Below B0 w0 W
  lt : g < W.heap.size
  le : B0 ≤ g
theorem SxS.below {Q : Nat → Prop} {B0 g : Nat} {w0 : World} {ls : List Sx} {v : Value} {j : Nat} {us : List Value} {W W' : World} (h : SxS Q B0 g w0 ls v j us W) (hb : Below W.heap.size W W') : SxS Q B0 g w0 ls v j us W' :=
  ⟨ownsRow_keep h.own (Keeps.of_below (P := fun _ => True) hb) fun _ _ => trivial, h.row.move (Keeps.of_below hb), h.bel.trans (hb.mono (by have := h.le; have := h.lt; omega)), Nat.lt_of_lt_of_le h.lt hb.size, h.le⟩
theorem SxS.far {Q : Nat → Prop} {B0 g : Nat} {w0 : World} {ls : List Sx} {v : Value} {j : Nat} {us : List Value} {W : World} (h : SxS Q B0 g w0 ls v j us W) : ∀ b, v.ownBlock = some b → b ≠ g := fun b hb e => by have := (h.own.lt b hb).1; omega
theorem SxS.appended {Q : Nat → Prop} {B0 g : Nat} {w0 : World} {ls : List Sx} {v v' : Value} {j : Nat} {us cs : List Value} {Wr W W' : World} (h : SxS Q B0 g w0 ls v j us Wr) (hb : Below Wr.heap.size Wr W) {d : Sx} (hd : ls[j]? = some d) (hl : SLayP (fun b => (Q b ∧ b ≠ g) ∧ v.ownBlock ≠ some b) W d cs)
    (hown : W'.ownsRow (g + 1) 35 8 v' (j + 1) (us ++ cs)) (hgrow : W.grownBy W' v.ownBlock) (hm : MovedTo W v v') : SxS Q B0 g w0 ls v' (j + 1) (us ++ cs) W' := by
  have h1 := h.below hb
  have hlt := h.lt
  have hle := h.le
  have hr := h1.row.appended hl hgrow hm
  refine ⟨hown, ?_, h1.bel.grown hgrow (by have := h1.lt; omega) (fun q hq => by have := (h1.own.lt q hq).1; omega), Nat.lt_of_lt_of_le h1.lt hgrow.size, hle⟩
  rw [List.take_add_one, hd]; exact hr
theorem SxS.store {Q : Nat → Prop} {B0 g : Nat} {w0 : World} {ls : List Sx} {v : Value} {j : Nat} {us : List Value} {W : World} (h : SxS Q B0 g w0 ls v j us W) (o : Nat) (u : Value) : SxS Q B0 g w0 ls v j us (W.setCell ⟨g, o, none⟩ u) := by
  have hk : Keeps (fun b => (Q b ∧ b ≠ g) ∧ v.ownBlock ≠ some b) W (W.setCell ⟨g, o, none⟩ u) := (Keeps.refl _ W).set (p := ⟨g, o, none⟩) (fun hp => hp.1.2 rfl) u
  exact ⟨ownsRow_keep h.own ((Keeps.refl (fun b => b ≠ g) W).set (p := ⟨g, o, none⟩) (fun hp => hp rfl) u) h.far, h.row.move hk, h.bel.setCell (p := ⟨g, o, none⟩) h.le u, by have := h.lt; simpa using this, h.le⟩
end Go.Proofs.YtbfcbicbeagjkaaGreatDoor
namespace Go.Proofs.YtbfcbicbeagjkaaGreatDoor
open Go.RowKit

end Go.Proofs.YtbfcbicbeagjkaaGreatDoor
namespace Go.Proofs.YtbfcbicbeagjkaaGreatDoor
open Go.RowKit

theorem dm_shapes {w : World} {D : Dm} {us : List Value} (h : Lay w D us) : ∃ x0 x1 x2 xo xn xc yo yn yc x5, us = [.int .i64 x0, .string x1, .bool x2, .slice xo xn xc, .slice yo yn yc, .int .i64 x5] := by
  obtain ⟨lv, av, vs, rfl, _, _, _, ⟨_, _, _, rfl, _⟩, ⟨_, _, _, _, rfl, _⟩, _⟩ := h.open'
  exact ⟨_, _, _, _, _, _, _, _, _, _, rfl⟩
end Go.Proofs.YtbfcbicbeagjkaaGreatDoor
