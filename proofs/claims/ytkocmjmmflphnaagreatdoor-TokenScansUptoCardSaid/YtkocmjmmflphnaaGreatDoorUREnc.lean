/- ref.Encode -/
import Derived.Test.YtkocmjmmflphnaaGreatDoorUEnc
namespace Go.Proofs.YtkocmjmmflphnaaGreatDoor
open Go.RowKit

set_option maxRecDepth 100000 in
set_option maxHeartbeats 1000000 in
theorem rencode_any (sv : Value) (zs : List Int) (w : World) (hs : SlV w sv (intCells zs)) (hl : zs.length ≤ 1000000) :
    Calls Tryz.prog 31 #[sv] w (EncPost zs w) := by
  obtain ⟨i0, hi, hz0, hz1, hz2⟩ := info_parts infoUB
  have HS := Lib.hid hs
  obtain ⟨hm, ao, cap, rfl, hcap, h⟩ := hs
  rw [intCells_len] at hcap
  have hlen := intCells_len zs
  have HC : Hid (∀ j, j < zs.length → ∃ b off, ao = some ⟨b, off, none⟩ ∧ b < w.heap.size ∧ w.cell? ⟨b, off + j, none⟩ = some (.int .i64 (zs.getD j 0))) := Lib.hid fun j hj => by
    rcases h with ⟨h, _⟩ | ⟨b, off, h1, h2, h3⟩
    · rw [h] at hlen; simp at hlen; omega
    · exact ⟨b, off, h1, h2, h3 j _ (intCells_at hj)⟩
  rw [hlen]
  clear h hm HS hlen
  go_enter Tryz.func31, Tryz.ntmps31
  go_wp2_with fail
  go_loopw [4, 5] (fun v i wr => ∃ bs k, i = .int .i64 (k : Nat) ∧ EncS zs bs k ∧ wr.ownsRow w.heap.size 5 1 v bs.length (cellsOf .u8 bs) ∧ Below w.heap.size w wr) (fun _ i _ => zs.length - (intOf i).toNat)
  case atStart => exact ⟨[], 0, rfl, EncS.start zs, World.ownsRow_nil _ _ _ _, Below.refl _ _⟩
  case round =>
    obtain ⟨bs, k, rfl, henc, hown, hbel⟩ := hrel
    have hk := henc.le
    have hbl := henc.len
    by_cases hkn : k < zs.length
    · obtain ⟨b, off, hao, hb, hc⟩ := HC.out k hkn
      subst hao
      have hcw : wr.cell? ⟨b, off + k, none⟩ = some (.int .i64 (zs.getD k 0)) := by rw [hbel.cell (p := ⟨b, off + k, none⟩) hb]; exact hc
      clear hc
      obtain ⟨z, hz⟩ : ∃ z, z = zs.getD k 0 := ⟨_, rfl⟩
      rw [← hz] at hcw
      have HZ := Lib.hid hz; clear hz
      have HE := Lib.hid henc; clear henc
      go_wp2_with fail
      refine (rscalar_any _ _).mono ?_
      rintro e w' ⟨rfl, rfl⟩
      cases hsc : scB z
      · have HB := Lib.hid hsc; clear hsc
        go_wp2
        go_ret2
        exact EncPost.mk (k := 1) (EncS.bad hkn (by rw [← HZ.out]; exact HB.out)) (Sl.nil' _ _) hbel
      · have hr := scB_range hsc
        have HB := Lib.hid hsc
        clear hsc
        have hsz := hbel.size
        obtain ⟨c, rfl⟩ : ∃ c : Nat, z = (c : Int) := ⟨z.toNat, by omega⟩
        go_wp2_with fail
        refine (rbytes_any c _ (by omega)).mono ?_
        rintro e w1 ⟨rfl, rfl⟩
        have hbl2 := blen_le c
        rw [← encN_len] at hbl2
        have HI := Lib.hid (HE.out.step hkn (by rw [← HZ.out]; exact HB.out))
        have HL := Lib.hid hbl2
        have hlt2 : (encN c).length ≤ 4 := by omega
        clear hbl2
        go_wp2_with (at_builtin; go_loud (refine wpList_append_own _ rfl _ _ 36 rfl w.heap.size 5 i0 (.int .u8 0) 1 1 Tryz.underlying36 hi hz0 hz1 hz2 rfl (by decide) _ bs.length (cellsOf .u8 bs) rfl (hown.alloc _) ⟨wr.heap.size, 0, none⟩ (encN c).length (encN c).length (cellsOf .u8 (encN c)) rfl (by simp [cellsOf]) (by intro j u hu; rw [Addr.add_lit]; exact (cell_of_row _ _ _ _ _ (0, 0) (heap_alloc_new wr _)).trans (by simpa [cellsOf] using hu)) (by intro u hu; obtain ⟨_, _, rfl⟩ := List.mem_map.1 hu; rfl) (by unfold maxLen; omega) (by omega) (by simp; omega) ?_); intro v' w1 hown1 hgrow hnil; clear hnil)
        go_roundw
        case rel =>
          have hlo := hown.lt
          have hgrow' : World.grownBy _ w1 (Value.ownBlock _) := hgrow
          have hb2 : Below w.heap.size w w1 := (hbel.alloc hsz _).grown hgrow' (by simp; omega) (fun k hk => (hlo k hk).1)
          have e1 : cellsOf .u8 bs ++ cellsOf .u8 (encN c) = cellsOf .u8 (bs ++ encN c) := (cellsOf_append _ _ _).symm
          have e2 : bs.length + (encN c).length = (bs ++ encN c).length := by simp
          rw [e1, e2] at hown1
          have hst := HI.out
          rw [← HZ.out] at hst
          exact ⟨_, k + 1, by go_num, hst, hown1, hb2⟩
        case measure => simp only [intOf]; omega
    · obtain rfl : k = zs.length := by omega
      have HD := Lib.hid henc.done; clear henc
      have hsl := owns_sl hown
      clear hown
      go_wp2
      go_ret2
      exact EncPost.mk (k := 0) HD.out hsl hbel
end Go.Proofs.YtkocmjmmflphnaaGreatDoor
