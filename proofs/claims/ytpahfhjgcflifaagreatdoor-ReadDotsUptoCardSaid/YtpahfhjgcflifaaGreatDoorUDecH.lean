/- Small facts on decoding, and what a law comes to. No walk here. | utf.Encode, ref.Encode -/
import Derived.Test.YtpahfhjgcflifaaGreatDoorUDec
import Derived.Test.YtpahfhjgcflifaaGreatDoorApp
import Derived.Test.YtpahfhjgcflifaaGreatDoorUOne
import Derived.Test.YtpahfhjgcflifaaGreatDoorUEncMath
namespace Go.Proofs.YtpahfhjgcflifaaGreatDoor
open Go.RowKit

/-- An empty row of one's own. -/
theorem owns_empty (w : World) (e : TypeId) : (w.alloc (.cells #[] e)).ownsRow w.heap.size e 1 (.slice (some ⟨w.heap.size, 0, none⟩) 0 0) 0 [] := by
  have := World.ownsRow_made (base := w.heap.size) (e := e) (size := 1) w #[] 0 (by simp) (by simp) (by simp)
  simpa using this
theorem grown_own {w w1 : World} {v : Value} {base n : Nat} {e : TypeId} {ys : List Value} (hg : w.grownBy w1 v.ownBlock) (ho : w.ownsRow base e 1 v n ys) {B : Nat} {w0 : World} (hb : Below B w0 w) (hB : B ≤ base) (hs : B ≤ w.heap.size) : Below B w0 w1 :=
  hb.grown hg hs fun k hk => Nat.le_trans hB (ho.lt k hk).1

theorem decA_four {bs : List Nat} {cs : List Nat} {k e : Nat} (h : decA bs = (cs, k, e)) (he : e = 4) : k < bs.length ∧ bs.length ≤ 65536 ∧ cs = [] ∧ ∃ ds, chars (bs.take k) 0 = (ds, none) := by
  unfold decA at h
  split at h
  · simp only [Prod.mk.injEq] at h; omega
  · split at h
    · simp only [Prod.mk.injEq] at h; omega
    · rename_i ds m hm
      simp only [Prod.mk.injEq] at h
      obtain ⟨h1, rfl, _⟩ := h
      have h2 : (chars bs 0).2 = some m := by rw [hm]
      obtain ⟨_, h3, _⟩ := chars_some _ 0 (Nat.le_refl _) h2
      exact ⟨h3, by omega, h1.symm, _, chars_take _ 0 (Nat.le_refl _) h2⟩
theorem decA_not {bs : List Nat} {cs : List Nat} {k e : Nat} (h : decA bs = (cs, k, e)) (he : e ≠ 4) : k = 0 := by
  unfold decA at h
  split at h
  · simp only [Prod.mk.injEq] at h; omega
  · split at h
    · simp only [Prod.mk.injEq] at h; omega
    · simp only [Prod.mk.injEq] at h; omega
theorem decA_e {bs : List Nat} {cs : List Nat} {k e : Nat} (h : decA bs = (cs, k, e)) : e ≤ 6 := by
  unfold decA at h
  split at h
  · simp only [Prod.mk.injEq] at h; omega
  · split at h
    · simp only [Prod.mk.injEq] at h; omega
    · simp only [Prod.mk.injEq] at h; omega
theorem Sl.cut {k : IntKind} {w : World} {b off cap n : Nat} {xs : List Nat} (h : Sl k w (.slice (some ⟨b, off, none⟩) xs.length cap) xs) (hn : n ≤ xs.length) (cap' : Nat) (hc : n ≤ cap') : Sl k w (.slice (some ⟨b, off, none⟩) n cap') (xs.take n) := by
  obtain ⟨hm, ao, c, hv, _, h⟩ := h
  simp only [Value.slice.injEq, true_and] at hv
  obtain ⟨rfl, rfl⟩ := hv
  have e : (xs.take n).length = n := by simp; omega
  refine ⟨by omega, _, _, by rw [e], by omega, ?_⟩
  rcases h with ⟨rfl, hz⟩ | ⟨b', off', he, hb, hcell⟩
  · exact .inl ⟨by simp, fun h => by cases h⟩
  · refine .inr ⟨b', off', he, hb, fun j hj => ?_⟩
    rw [hcell j (by omega)]
    simp [limb, show j < n by omega]

/-- What a law comes to. -/
def TruePost (w : World) (e : Ending) (w' : World) : Prop := e = .returned (.bool true) ∧ Below w.heap.size w w'
end Go.Proofs.YtpahfhjgcflifaaGreatDoor
namespace Go.Proofs.YtpahfhjgcflifaaGreatDoor
open Go.RowKit

/-- What Encode answers. -/
def EncPost (zs : List Int) (w : World) (e : Ending) (w' : World) : Prop :=
  ∃ v, e = .returned (.tuple #[v, .int .i64 ((encA zs).2 : Nat)]) ∧ Sl .u8 w' v (encA zs).1 ∧ Below w.heap.size w w'
theorem EncPost.mk {zs : List Int} {w w' : World} {v : Value} {bs : List Nat} {k : Nat} (h : encA zs = (bs, k)) (hs : Sl .u8 w' v bs) (hb : Below w.heap.size w w') : EncPost zs w (.returned (.tuple #[v, .int .i64 (k : Nat)])) w' := by
  refine ⟨v, by rw [h], by rw [h]; exact hs, hb⟩

set_option maxRecDepth 100000 in
set_option maxHeartbeats 1000000 in
theorem encode_any (sv : Value) (zs : List Int) (w : World) (hs : SlV w sv (intCells zs)) (hl : zs.length ≤ 2000000) :
    Calls Tryz.prog 129 #[sv] w (EncPost zs w) := by
  have HS := Lib.hid hs
  obtain ⟨hm, ao, cap, rfl, hcap, h⟩ := hs
  rw [intCells_len] at hcap
  have hlen := intCells_len zs
  have HC : Hid (∀ j, j < zs.length → ∃ b off, ao = some ⟨b, off, none⟩ ∧ b < w.heap.size ∧ w.cell? ⟨b, off + j, none⟩ = some (.int .i64 (zs.getD j 0))) := Lib.hid fun j hj => by
    rcases h with ⟨h, _⟩ | ⟨b, off, h1, h2, h3⟩
    · rw [h] at hlen; simp at hlen; omega
    · exact ⟨b, off, h1, h2, h3 j _ (intCells_at hj)⟩
  rw [hlen]
  clear h hm HS hlen
  go_enter Tryz.func129, Tryz.ntmps129
  go_wp2_with fail
  go_loopw [4, 9] (fun v i wr => ∃ bs k, i = .int .i64 (k : Nat) ∧ EncS zs bs k ∧ wr.ownsRow w.heap.size 5 1 v bs.length (cellsOf .u8 bs) ∧ Below w.heap.size w wr) (fun _ i _ => zs.length - (intOf i).toNat)
  case atStart => exact ⟨[], 0, rfl, EncS.start zs, World.ownsRow_nil _ _ _ _, Below.refl _ _⟩
  case round =>
    obtain ⟨bs, k, rfl, henc, hown, hbel⟩ := hrel
    have hk := henc.le
    have hbl := henc.len
    by_cases hkn : k < zs.length
    · obtain ⟨b, off, hao, hb, hc⟩ := HC.out k hkn
      subst hao
      have hcw : wr.cell? ⟨b, off + k, none⟩ = some (.int .i64 (zs.getD k 0)) := by rw [hbel.cell (p := ⟨b, off + k, none⟩) hb]; exact hc
      clear hc
      obtain ⟨z, hz⟩ : ∃ z, z = zs.getD k 0 := ⟨_, rfl⟩
      rw [← hz] at hcw
      have HZ := Lib.hid hz; clear hz
      have HE := Lib.hid henc; clear henc
      go_wp2_with fail
      refine (scalar_any _ _).mono ?_
      rintro e w' ⟨rfl, rfl⟩
      cases hsc : scB z
      · have HB := Lib.hid hsc; clear hsc
        go_wp2
        go_ret2
        exact EncPost.mk (k := 1) (EncS.bad hkn (by rw [← HZ.out]; exact HB.out)) (Sl.nil' _ _) hbel
      · have hr := scB_range hsc
        have HB := Lib.hid hsc
        have HRC := Lib.hid (runeCells_enc hsc)
        clear hsc
        have hsz := hbel.size
        go_wp2_with fail
        refine (Any.utf8_AppendRune_plain Tryz.lays242 (by kernel_rfl) w.heap.size _ bs.length (cellsOf .u8 bs) z (by omega) (by omega) wr hown (by omega) hsz).mono ?_
        rintro e w1 ⟨v', rfl, hown1, o, hgrow⟩
        rw [HRC.out] at hown1
        have HI := Lib.hid (HE.out.step hkn (by rw [← HZ.out]; exact HB.out))
        have hlo := hown.lt
        have hb2 : Below w.heap.size w w1 := (hbel.alloc hsz _).grown hgrow (by simp; omega) (fun k hk => (hlo k hk).1)
        have e1 : cellsOf .u8 bs ++ cellsOf .u8 (encN z.toNat) = cellsOf .u8 (bs ++ encN z.toNat) := (cellsOf_append _ _ _).symm
        have e2 : bs.length + (cellsOf .u8 (encN z.toNat)).length = (bs ++ encN z.toNat).length := by simp [cellsOf]
        rw [e1, e2] at hown1
        clear hown hgrow hlo e1 e2
        have HO := Lib.hid hown1
        clear hown1
        go_wp2
        go_roundw
        case rel => exact ⟨_, k + 1, by go_num, by rw [← HZ.out] at HI; exact HI.out, HO.out, hb2⟩
        case measure => simp only [intOf]; omega
    · obtain rfl : k = zs.length := by omega
      have HD := Lib.hid henc.done; clear henc
      have hsl := owns_sl hown
      clear hown
      go_wp2
      go_ret2
      exact EncPost.mk (k := 0) HD.out hsl hbel
end Go.Proofs.YtpahfhjgcflifaaGreatDoor
