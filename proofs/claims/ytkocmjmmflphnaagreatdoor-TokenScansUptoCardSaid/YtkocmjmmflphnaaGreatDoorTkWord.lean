/- (*scanner).word -/
import Derived.Test.YtkocmjmmflphnaaGreatDoorTkChr
import Derived.Deep.MidRow
import Derived.Deep.Cut
namespace Go.Proofs.YtkocmjmmflphnaaGreatDoor
open Go.RowKit

theorem wrdA_mark {cs : List Nat} {i k : Nat} (h : markA cs i = some k) : wrdA cs i = some (markW k i, i + (mText k).length) := by unfold wrdA; rw [h]
theorem wrdA_quo {cs : List Nat} {i : Nat} (h : markA cs i = none) (h1 : limb cs i = 34) : wrdA cs i = quoW cs i (i + 1) [] := by unfold wrdA; rw [h]; show (if _ then _ else _) = _; rw [if_pos h1]; rfl
theorem wrdA_chr {cs : List Nat} {i : Nat} (h : markA cs i = none) (h1 : ¬ limb cs i = 34) (h2 : pfx [35, 92] cs i = true) : wrdA cs i = chrW cs i (i + 2) := by
  unfold wrdA; rw [h]; show (if _ then _ else if _ then _ else _) = _; rw [if_neg h1, if_pos h2]; rfl
theorem wrdA_atm {cs : List Nat} {i : Nat} (h : markA cs i = none) (h1 : ¬ limb cs i = 34) (h2 : pfx [35, 92] cs i = false) : wrdA cs i = atmW cs i := by
  unfold wrdA; rw [h]; show (if _ then _ else if _ then _ else _) = _; rw [if_neg h1, if_neg (by simp [h2])]; rfl
theorem mText_all : ∀ k : Fin 12, (mText k.val).length ≤ 3 ∧ (mText k.val).all (fun x => decide (x < 256)) = true := by decide
theorem mText_out {k : Nat} (h : ¬ k < 12) : mText k = [] := by unfold mText; rw [List.getD_eq_getElem?_getD, List.getElem?_eq_none (by simp [mtab]; omega)]; rfl
theorem mText_len (k : Nat) : (mText k).length ≤ 3 := by
  by_cases h : k < 12
  · exact (mText_all ⟨k, h⟩).1
  · rw [mText_out h]; simp
theorem mText_by (k : Nat) : By (mText k) := by
  by_cases h : k < 12
  · have ha := (mText_all ⟨k, h⟩).2
    rw [List.all_eq_true] at ha
    intro i
    by_cases hi : i < (mText k).length
    · rw [limb_lt hi]
      have := ha _ (List.getElem_mem hi)
      simpa using this
    · rw [limb_out (by omega)]; omega
  · rw [mText_out h]; exact By.nil
theorem mkB_at {l : List Nat} (h : By l) (j : Nat) (hj : j < (mkB l).size) : ((mkB l)[j]'hj).toNat = limb l j := by
  have e := bt_at hj
  rw [← e, ← bt_byt, byt_mk h]
theorem take_mark (k : Nat) (g : Nat) (sv : Value) (cs : List Nat) (f a : Nat) (w : World) (hs : Sc w g sv cs f a) :
    Calls Tryz.prog 38 #[.pointer (some ⟨g, 0, none⟩), .string (mkB (mText k))] w (TakePost (mText k) g sv cs f a w) :=
  take_any (mkB (mText k)) (mText k) (mkB_size _) (by have := mText_len k; omega) (fun j h => mkB_at (mText_by k) j h) g sv cs f a w hs
theorem pfx_one {c : Nat} {cs : List Nat} {i : Nat} (hi : i < cs.length) : pfx [c] cs i = decide (limb cs i = c) := by
  rw [Bool.eq_iff_iff, pfx_iff, decide_eq_true_iff]
  constructor
  · rintro (⟨_, h⟩ | h)
    · exact h 0 (by simp)
    · simp at h
  · intro h
    exact .inl ⟨by simp; omega, fun j hj => by match j, hj with | 0, _ => exact h⟩

/-- The cells of the table of marks. -/
theorem marks_range {w : World} (h : Marks w) : w.rangeAt 0 0 [.string (mkB (mText 0)), .int .i64 ((mKind 0 : Nat) : Int), .string (mkB (mName 0)), .string (mkB (mText 1)), .int .i64 ((mKind 1 : Nat) : Int), .string (mkB (mName 1)), .string (mkB (mText 2)), .int .i64 ((mKind 2 : Nat) : Int), .string (mkB (mName 2)), .string (mkB (mText 3)), .int .i64 ((mKind 3 : Nat) : Int), .string (mkB (mName 3)), .string (mkB (mText 4)), .int .i64 ((mKind 4 : Nat) : Int), .string (mkB (mName 4)), .string (mkB (mText 5)), .int .i64 ((mKind 5 : Nat) : Int), .string (mkB (mName 5)), .string (mkB (mText 6)), .int .i64 ((mKind 6 : Nat) : Int), .string (mkB (mName 6)), .string (mkB (mText 7)), .int .i64 ((mKind 7 : Nat) : Int), .string (mkB (mName 7)), .string (mkB (mText 8)), .int .i64 ((mKind 8 : Nat) : Int), .string (mkB (mName 8)), .string (mkB (mText 9)), .int .i64 ((mKind 9 : Nat) : Int), .string (mkB (mName 9)), .string (mkB (mText 10)), .int .i64 ((mKind 10 : Nat) : Int), .string (mkB (mName 10)), .string (mkB (mText 11)), .int .i64 ((mKind 11 : Nat) : Int), .string (mkB (mName 11))] := by
  intro j v hv
  rw [Nat.zero_add]
  match j, hv with
  | 0, hv => exact (Option.some.inj hv) ▸ (h 0 (by omega)).1
  | 1, hv => exact (Option.some.inj hv) ▸ (h 0 (by omega)).2.1
  | 2, hv => exact (Option.some.inj hv) ▸ (h 0 (by omega)).2.2
  | 3, hv => exact (Option.some.inj hv) ▸ (h 1 (by omega)).1
  | 4, hv => exact (Option.some.inj hv) ▸ (h 1 (by omega)).2.1
  | 5, hv => exact (Option.some.inj hv) ▸ (h 1 (by omega)).2.2
  | 6, hv => exact (Option.some.inj hv) ▸ (h 2 (by omega)).1
  | 7, hv => exact (Option.some.inj hv) ▸ (h 2 (by omega)).2.1
  | 8, hv => exact (Option.some.inj hv) ▸ (h 2 (by omega)).2.2
  | 9, hv => exact (Option.some.inj hv) ▸ (h 3 (by omega)).1
  | 10, hv => exact (Option.some.inj hv) ▸ (h 3 (by omega)).2.1
  | 11, hv => exact (Option.some.inj hv) ▸ (h 3 (by omega)).2.2
  | 12, hv => exact (Option.some.inj hv) ▸ (h 4 (by omega)).1
  | 13, hv => exact (Option.some.inj hv) ▸ (h 4 (by omega)).2.1
  | 14, hv => exact (Option.some.inj hv) ▸ (h 4 (by omega)).2.2
  | 15, hv => exact (Option.some.inj hv) ▸ (h 5 (by omega)).1
  | 16, hv => exact (Option.some.inj hv) ▸ (h 5 (by omega)).2.1
  | 17, hv => exact (Option.some.inj hv) ▸ (h 5 (by omega)).2.2
  | 18, hv => exact (Option.some.inj hv) ▸ (h 6 (by omega)).1
  | 19, hv => exact (Option.some.inj hv) ▸ (h 6 (by omega)).2.1
  | 20, hv => exact (Option.some.inj hv) ▸ (h 6 (by omega)).2.2
  | 21, hv => exact (Option.some.inj hv) ▸ (h 7 (by omega)).1
  | 22, hv => exact (Option.some.inj hv) ▸ (h 7 (by omega)).2.1
  | 23, hv => exact (Option.some.inj hv) ▸ (h 7 (by omega)).2.2
  | 24, hv => exact (Option.some.inj hv) ▸ (h 8 (by omega)).1
  | 25, hv => exact (Option.some.inj hv) ▸ (h 8 (by omega)).2.1
  | 26, hv => exact (Option.some.inj hv) ▸ (h 8 (by omega)).2.2
  | 27, hv => exact (Option.some.inj hv) ▸ (h 9 (by omega)).1
  | 28, hv => exact (Option.some.inj hv) ▸ (h 9 (by omega)).2.1
  | 29, hv => exact (Option.some.inj hv) ▸ (h 9 (by omega)).2.2
  | 30, hv => exact (Option.some.inj hv) ▸ (h 10 (by omega)).1
  | 31, hv => exact (Option.some.inj hv) ▸ (h 10 (by omega)).2.1
  | 32, hv => exact (Option.some.inj hv) ▸ (h 10 (by omega)).2.2
  | 33, hv => exact (Option.some.inj hv) ▸ (h 11 (by omega)).1
  | 34, hv => exact (Option.some.inj hv) ▸ (h 11 (by omega)).2.1
  | 35, hv => exact (Option.some.inj hv) ▸ (h 11 (by omega)).2.2
  | n + 36, hv => exact absurd hv (by simp)

set_option maxRecDepth 100000 in
/-- The k-th mark. -/
theorem mark_at (k : Nat) (w : World) (hk : k < 12) : Sem.run Tryz.prog (Instr.index 79 (.agg #[.string (mkB (mText 0)), .int .i64 ((mKind 0 : Nat) : Int), .string (mkB (mName 0)), .string (mkB (mText 1)), .int .i64 ((mKind 1 : Nat) : Int), .string (mkB (mName 1)), .string (mkB (mText 2)), .int .i64 ((mKind 2 : Nat) : Int), .string (mkB (mName 2)), .string (mkB (mText 3)), .int .i64 ((mKind 3 : Nat) : Int), .string (mkB (mName 3)), .string (mkB (mText 4)), .int .i64 ((mKind 4 : Nat) : Int), .string (mkB (mName 4)), .string (mkB (mText 5)), .int .i64 ((mKind 5 : Nat) : Int), .string (mkB (mName 5)), .string (mkB (mText 6)), .int .i64 ((mKind 6 : Nat) : Int), .string (mkB (mName 6)), .string (mkB (mText 7)), .int .i64 ((mKind 7 : Nat) : Int), .string (mkB (mName 7)), .string (mkB (mText 8)), .int .i64 ((mKind 8 : Nat) : Int), .string (mkB (mName 8)), .string (mkB (mText 9)), .int .i64 ((mKind 9 : Nat) : Int), .string (mkB (mName 9)), .string (mkB (mText 10)), .int .i64 ((mKind 10 : Nat) : Int), .string (mkB (mName 10)), .string (mkB (mText 11)), .int .i64 ((mKind 11 : Nat) : Int), .string (mkB (mName 11))]) (.int .i64 ((k : Nat) : Int))) w = .ok (.agg #[.string (mkB (mText k)), .int .i64 ((mKind k : Nat) : Int), .string (mkB (mName k))]) w := by
  have : k = 0 ∨ k = 1 ∨ k = 2 ∨ k = 3 ∨ k = 4 ∨ k = 5 ∨ k = 6 ∨ k = 7 ∨ k = 8 ∨ k = 9 ∨ k = 10 ∨ k = 11 := by omega
  rcases this with rfl | rfl | rfl | rfl | rfl | rfl | rfl | rfl | rfl | rfl | rfl | rfl <;> (first | rfl | (show _ = _; kernel_rfl))

set_option maxRecDepth 100000 in
set_option maxHeartbeats 8000000 in
theorem word_any (W : World) (g : Nat) (sv : Value) (cs : List Nat) (f0 i : Nat) (w : World) (hs : Sc w g sv cs f0 i) (hgl : Gl W w g) (hil : i < cs.length) :
    Calls Tryz.prog 28 #[.pointer (some ⟨g, 0, none⟩)] w (WPost (wrdA cs i) g sv cs i w) := by
  have HS := Lib.hid hs
  have HG := Lib.hid hgl; clear hgl
  have hlt := hs.lt
  obtain ⟨c0, c1, c2, f1, f2⟩ := hs.box.facts
  have hgm : ¬ g = 0 := by
    intro e
    have h0 := (HG.out.marks 0 (by omega)).1
    have h1 := World.block_lt_of_cell? W _ h0
    have h2 := HG.out.le
    simp only at h1
    omega
  have hs1 := (hs.setFrom i rfl).alloc (.cells #[.int .i64 0, .string ⟨#[]⟩, .int .i64 0, .string ⟨#[]⟩, .bool false, .slice none 0 0, .slice none 0 0, .int .i64 0, .int .i64 0] 44)
  have hk1 := ((Ks.refl g w).set 1 (.int .i64 (i : Nat))).alloc hlt (.cells #[.int .i64 0, .string ⟨#[]⟩, .int .i64 0, .string ⟨#[]⟩, .bool false, .slice none 0 0, .slice none 0 0, .int .i64 0, .int .i64 0] 44)
  have ht1 := TB.new (w.setCell ⟨g, 1, none⟩ (.int .i64 (i : Nat)))
  have hsz : (w.setCell ⟨g, 1, none⟩ (.int .i64 (i : Nat))).heap.size = w.heap.size := by simp
  rw [hsz] at ht1
  have hsz1 : ((w.setCell ⟨g, 1, none⟩ (.int .i64 (i : Nat))).alloc (.cells #[.int .i64 0, .string ⟨#[]⟩, .int .i64 0, .string ⟨#[]⟩, .bool false, .slice none 0 0, .slice none 0 0, .int .i64 0, .int .i64 0] 44)).heap.size = w.heap.size + 1 := by simp
  have HS1 := Lib.hid hs1
  have HK1 := Lib.hid hk1
  have HTB := Lib.hid ht1
  clear hs hs1 hk1 ht1 hsz
  go_enter Tryz.func28, Tryz.ntmps28
  go_upto_region 2 with fail
  generalize hw1 : (w.setCell ⟨g, 1, none⟩ (.int .i64 (i : Nat))).alloc (.cells #[.int .i64 0, .string ⟨#[]⟩, .int .i64 0, .string ⟨#[]⟩, .bool false, .slice none 0 0, .slice none 0 0, .int .i64 0, .int .i64 0] 44) = w1 at *
  clear c0 c1 c2 f1 f2 hw1
  have hlt1 := HS1.out.lt
  have HG1 := Lib.hid (HG.out.ks HK1.out)
  have hmr := Lib.hid (marks_range HG1.out.mk')
  go_wp2_with (refine wpList_load_mid rfl 79 _ rfl 0 0 rfl [.string (mkB (mText 0)), .int .i64 ((mKind 0 : Nat) : Int), .string (mkB (mName 0)), .string (mkB (mText 1)), .int .i64 ((mKind 1 : Nat) : Int), .string (mkB (mName 1)), .string (mkB (mText 2)), .int .i64 ((mKind 2 : Nat) : Int), .string (mkB (mName 2)), .string (mkB (mText 3)), .int .i64 ((mKind 3 : Nat) : Int), .string (mkB (mName 3)), .string (mkB (mText 4)), .int .i64 ((mKind 4 : Nat) : Int), .string (mkB (mName 4)), .string (mkB (mText 5)), .int .i64 ((mKind 5 : Nat) : Int), .string (mkB (mName 5)), .string (mkB (mText 6)), .int .i64 ((mKind 6 : Nat) : Int), .string (mkB (mName 6)), .string (mkB (mText 7)), .int .i64 ((mKind 7 : Nat) : Int), .string (mkB (mName 7)), .string (mkB (mText 8)), .int .i64 ((mKind 8 : Nat) : Int), .string (mkB (mName 8)), .string (mkB (mText 9)), .int .i64 ((mKind 9 : Nat) : Int), .string (mkB (mName 9)), .string (mkB (mText 10)), .int .i64 ((mKind 10 : Nat) : Int), .string (mkB (mName 10)), .string (mkB (mText 11)), .int .i64 ((mKind 11 : Nat) : Int), .string (mkB (mName 11))] _ hmr.out Tryz.underlying79 rfl (by kernel_rfl) ?_)
  go_loopw [13] (fun i13 wr => ∃ k : Nat, i13 = .int .i64 (k : Nat) ∧ k ≤ 12 ∧ (∀ j, j < k → pfx (mText j) cs i = false) ∧ Sc wr g sv cs i i ∧ Ks g w1 wr) (fun i13 _ => 12 - (intOf i13).toNat)
  case atStart => exact ⟨0, rfl, by omega, fun j hj => by omega, HS1.out, Ks.refl _ _⟩
  case round =>
    obtain ⟨k, rfl, hk, hno, hsc, hks⟩ := hrel
    have HN := Lib.hid hno
    have HSC := Lib.hid hsc
    have HK := Lib.hid hks
    have hltr := hsc.lt
    clear hno hsc hks
    rcases Nat.lt_or_eq_of_le hk with hkt | rfl
    · have hix := fun w => mark_at k w hkt
      have hkt2 : (k : Int) < 12 := by omega
      go_wp2_with fail
      have HR0 := Lib.hid (heap_alloc_new wr (.cells #[.string (mkB (mText k)), .int .i64 ((mKind k : Nat) : Int), .string (mkB (mName k))] 78 (0, 0)))
      refine (take_mark k g sv cs i i _ (HSC.out.alloc _)).mono ?_
      rintro e w2 ⟨rfl, hs2, hk2⟩
      have HK2 := Lib.hid ((HK.out.alloc hlt1 (.cells #[.string (mkB (mText k)), .int .i64 ((mKind k : Nat) : Int), .string (mkB (mName k))] 78 (0, 0))).trans hk2)
      cases hp : pfx (mText k) cs i with
      | false =>
        rw [hp] at hs2
        have HS2 : Hid (Sc w2 g sv cs i i) := Lib.hid hs2
        have HP := Lib.hid hp
        clear hs2 hk2 hp
        go_wp2_with fail
        go_roundw
        case rel =>
          refine ⟨k + 1, by go_num, by omega, fun j hj => ?_, HS2.out, HK2.out⟩
          by_cases e : j = k
          · subst e; exact HP.out
          · exact HN.out j (by omega)
        case measure => simp only [intOf]; omega
      | true =>
        rw [hp] at hs2
        have HS2 : Hid (Sc w2 g sv cs i (i + (mText k).length)) := Lib.hid hs2
        have HA := Lib.hid (wrdA_mark (markA_hit (k := k) (by omega) hp HN.out))
        have hr2 := (hk2.oth wr.heap.size (by simp) (by omega)).trans HR0.out
        have HT2 := Lib.hid (HTB.out.ks HK2.out (by omega))
        have q0 := cell_heap hr2 0
        have q1 := cell_heap hr2 1
        have q2 := cell_heap hr2 2
        obtain ⟨s0, s1, s2, sf1, sf2⟩ := HS2.out.box.facts
        obtain ⟨c0, c1, c2, c3, c4, c5, c6, c7, c8, f0, f1, f2, f3, f4, f5, f6, f7, f8⟩ := HT2.out.facts
        have hbne : ¬ g = w.heap.size := by omega
        clear hs2 hk2 hp hr2
        go_wp2_with fail
        go_region
        go_wp2_with fail
        obtain ⟨hrow, hk⟩ := HT2.out.fill (.int .i64 ((mKind k : Nat) : Int)) (.string (mkB (mName k))) (.int .i64 0) (.string ⟨#[]⟩) (.bool false) (.slice none 0 0) (.slice none 0 0) (.int .i64 0) (.int .i64 (i : Nat))
        have HKF := Lib.hid (Ks.newB (HK1.out.trans HK2.out) hk (Nat.le_refl _) hlt)
        have HSF := Lib.hid (HS2.out.ks2 hk (by omega) (fun he => by have := HS.out.svb (by omega) _ he; omega))
        clear c0 c1 c2 c3 c4 c5 c6 c7 c8 f0 f1 f2 f3 f4 f5 f6 f7 f8 q0 q1 q2 s0 s1 s2 sf1 sf2 hix
        generalize World.setCell _ ⟨w.heap.size, 8, none⟩ (.int .i64 (i : Nat)) = W' at *
        obtain ⟨c0, c1, c2, c3, c4, c5, c6, c7, c8⟩ := row9 hrow
        refine bodyPost_ret (v := .agg #[.int .i64 ((mKind k : Nat) : Int), .string (mkB (mName k)), .int .i64 0, .string ⟨#[]⟩, .bool false, .slice none 0 0, .slice none 0 0, .int .i64 0, .int .i64 (i : Nat)]) (by simp [results, Tryz.results28, go_sem, c0, c1, c2, c3, c4, c5, c6, c7, c8]) rfl ?_
        exact WPost.yes (x := markW k i) (lv := .slice none 0 0) HA.out rfl HKF.out.drew (Sl.nil _ _) (HSF.out.below (Below.refl _ _).drew)
    · have hM := markA_none HN.out
      have HMN := Lib.hid hM
      clear hM
      go_wp2_with fail
      refine (take_any ⟨#[34]⟩ [34] rfl (by simp) (fun j h => by match j, h with | 0, _ => rfl) g sv cs i i _ HSC.out).mono ?_
      rintro e w2 ⟨rfl, hs2, hk2⟩
      have HK2 := Lib.hid (HK.out.trans hk2)
      clear hk2
      cases hp : pfx [34] cs i with
      | true =>
        rw [hp] at hs2
        have HS2 : Hid (Sc w2 g sv cs i (i + 1)) := Lib.hid hs2
        have HE := Lib.hid (wrdA_quo HMN.out (by rw [pfx_one hil] at hp; simpa using hp))
        clear hs2 hp
        go_wp2_with fail
        refine (quoted_any W g sv cs i (i + 1) _ HS2.out (HG1.out.ks HK2.out)).mono ?_
        rintro e w5 ⟨hk5, ⟨x, j, lv, hx, rfl, hlv, hs5⟩ | ⟨hx, rfl⟩⟩
        · have HX := Lib.hid (HE.out.trans hx)
          have HL := Lib.hid hlv
          obtain ⟨_, av, cv, rfl, _, _⟩ := hlv
          have HS5 := Lib.hid hs5
          have HK5 := Lib.hid (HK2.out.trans hk5)
          have HT5 := Lib.hid (HTB.out.ks HK5.out (by omega))
          obtain ⟨c0, c1, c2, c3, c4, c5, c6, c7, c8, f0, f1, f2, f3, f4, f5, f6, f7, f8⟩ := HT5.out.facts
          clear hx hk5 hs5
          unfold wdV
          go_wp2_with fail
          obtain ⟨hrow, hk⟩ := HT5.out.fill (.int .i64 (x.kind : Nat)) (.string (mkB x.txt)) (.int .i64 (x.d.k : Nat)) (.string (mkB x.d.t)) (.bool x.d.n) (.slice av x.d.r.length cv) (.slice none 0 0) (.int .i64 (x.dat : Nat)) (.int .i64 (x.pl : Nat))
          have HKF := Lib.hid (Ks.newB (HK1.out.trans HK5.out) hk (Nat.le_refl _) hlt)
          have HSF := Lib.hid (HS5.out.ks2 hk (by omega) (fun he => by have := HS.out.svb (by omega) _ he; omega))
          have HLF := Lib.hid (HL.out.u32s (U32S.ks hk HT5.out.noU))
          clear c0 c1 c2 c3 c4 c5 c6 c7 c8 f0 f1 f2 f3 f4 f5 f6 f7 f8
          generalize World.setCell _ ⟨w.heap.size, 8, none⟩ (.int .i64 (x.pl : Nat)) = W' at *
          obtain ⟨c0, c1, c2, c3, c4, c5, c6, c7, c8⟩ := row9 hrow
          refine bodyPost_ret (v := .agg #[.int .i64 (x.kind : Nat), .string (mkB x.txt), .int .i64 (x.d.k : Nat), .string (mkB x.d.t), .bool x.d.n, .slice av x.d.r.length cv, .slice none 0 0, .int .i64 (x.dat : Nat), .int .i64 (x.pl : Nat)]) (by simp [results, Tryz.results28, go_sem, c0, c1, c2, c3, c4, c5, c6, c7, c8]) rfl ?_
          exact WPost.yes (x := x) (lv := .slice av x.d.r.length cv) HX.out rfl HKF.out HLF.out HSF.out
        · exact ⟨rfl, WPost.no (HE.out.trans hx) (HK1.out.trans (HK2.out.trans hk5))⟩
      | false =>
        rw [hp] at hs2
        have HS2 : Hid (Sc w2 g sv cs i i) := Lib.hid hs2
        have hn34 : ¬ limb cs i = 34 := by rw [pfx_one hil] at hp; simpa using hp
        have HN34 := Lib.hid hn34
        clear hs2 hp hn34
        go_wp2_with fail
        refine (take_any ⟨#[35, 92]⟩ [35, 92] rfl (by simp) (fun j h => by match j, h with | 0, _ => rfl | 1, _ => rfl) g sv cs i i _ HS2.out).mono ?_
        rintro e w3 ⟨rfl, hs3, hk3⟩
        have HK3 := Lib.hid (HK2.out.trans hk3)
        clear hk3
        cases hp : pfx [35, 92] cs i with
        | true =>
          rw [hp] at hs3
          have HS3 : Hid (Sc w3 g sv cs i (i + 2)) := Lib.hid hs3
          have HE := Lib.hid (wrdA_chr HMN.out HN34.out hp)
          clear hs3 hp
          go_wp2_with fail
          refine (char_any W g sv cs i (i + 2) _ HS3.out (HG1.out.ks HK3.out)).mono ?_
          rintro e w5 ⟨hk5, ⟨x, j, lv, hx, rfl, hlv, hs5⟩ | ⟨hx, rfl⟩⟩
          · have HX := Lib.hid (HE.out.trans hx)
            have HL := Lib.hid hlv
            obtain ⟨_, av, cv, rfl, _, _⟩ := hlv
            have HS5 := Lib.hid hs5
            have HK5 := Lib.hid (HK3.out.trans hk5)
            have HT5 := Lib.hid (HTB.out.ks HK5.out (by omega))
            obtain ⟨c0, c1, c2, c3, c4, c5, c6, c7, c8, f0, f1, f2, f3, f4, f5, f6, f7, f8⟩ := HT5.out.facts
            clear hx hk5 hs5
            unfold wdV
            go_wp2_with fail
            obtain ⟨hrow, hk⟩ := HT5.out.fill (.int .i64 (x.kind : Nat)) (.string (mkB x.txt)) (.int .i64 (x.d.k : Nat)) (.string (mkB x.d.t)) (.bool x.d.n) (.slice av x.d.r.length cv) (.slice none 0 0) (.int .i64 (x.dat : Nat)) (.int .i64 (x.pl : Nat))
            have HKF := Lib.hid (Ks.newB (HK1.out.trans HK5.out) hk (Nat.le_refl _) hlt)
            have HSF := Lib.hid (HS5.out.ks2 hk (by omega) (fun he => by have := HS.out.svb (by omega) _ he; omega))
            have HLF := Lib.hid (HL.out.u32s (U32S.ks hk HT5.out.noU))
            clear c0 c1 c2 c3 c4 c5 c6 c7 c8 f0 f1 f2 f3 f4 f5 f6 f7 f8
            generalize World.setCell _ ⟨w.heap.size, 8, none⟩ (.int .i64 (x.pl : Nat)) = W' at *
            obtain ⟨c0, c1, c2, c3, c4, c5, c6, c7, c8⟩ := row9 hrow
            refine bodyPost_ret (v := .agg #[.int .i64 (x.kind : Nat), .string (mkB x.txt), .int .i64 (x.d.k : Nat), .string (mkB x.d.t), .bool x.d.n, .slice av x.d.r.length cv, .slice none 0 0, .int .i64 (x.dat : Nat), .int .i64 (x.pl : Nat)]) (by simp [results, Tryz.results28, go_sem, c0, c1, c2, c3, c4, c5, c6, c7, c8]) rfl ?_
            exact WPost.yes (x := x) (lv := .slice av x.d.r.length cv) HX.out rfl HKF.out HLF.out HSF.out
          · exact ⟨rfl, WPost.no (HE.out.trans hx) (HK1.out.trans (HK3.out.trans hk5))⟩
        | false =>
          rw [hp] at hs3
          have HS3 : Hid (Sc w3 g sv cs i i) := Lib.hid hs3
          have HE := Lib.hid (wrdA_atm HMN.out HN34.out hp)
          clear hs3 hp
          go_wp2_with fail
          refine (atom_any W g sv cs i _ HS3.out (HG1.out.ks HK3.out) hil).mono ?_
          rintro e w5 ⟨hk5, ⟨x, j, lv, hx, rfl, hlv, hs5⟩ | ⟨hx, rfl⟩⟩
          · have HX := Lib.hid (HE.out.trans hx)
            have HL := Lib.hid hlv
            obtain ⟨_, av, cv, rfl, _, _⟩ := hlv
            have HS5 := Lib.hid hs5
            have HK5 := Lib.hid (HK3.out.trans hk5)
            have HT5 := Lib.hid (HTB.out.ks HK5.out (by omega))
            obtain ⟨c0, c1, c2, c3, c4, c5, c6, c7, c8, f0, f1, f2, f3, f4, f5, f6, f7, f8⟩ := HT5.out.facts
            clear hx hk5 hs5
            unfold wdV
            go_wp2_with fail
            obtain ⟨hrow, hk⟩ := HT5.out.fill (.int .i64 (x.kind : Nat)) (.string (mkB x.txt)) (.int .i64 (x.d.k : Nat)) (.string (mkB x.d.t)) (.bool x.d.n) (.slice av x.d.r.length cv) (.slice none 0 0) (.int .i64 (x.dat : Nat)) (.int .i64 (x.pl : Nat))
            have HKF := Lib.hid (Ks.newB (HK1.out.trans HK5.out) hk (Nat.le_refl _) hlt)
            have HSF := Lib.hid (HS5.out.ks2 hk (by omega) (fun he => by have := HS.out.svb (by omega) _ he; omega))
            have HLF := Lib.hid (HL.out.u32s (U32S.ks hk HT5.out.noU))
            clear c0 c1 c2 c3 c4 c5 c6 c7 c8 f0 f1 f2 f3 f4 f5 f6 f7 f8
            generalize World.setCell _ ⟨w.heap.size, 8, none⟩ (.int .i64 (x.pl : Nat)) = W' at *
            obtain ⟨c0, c1, c2, c3, c4, c5, c6, c7, c8⟩ := row9 hrow
            refine bodyPost_ret (v := .agg #[.int .i64 (x.kind : Nat), .string (mkB x.txt), .int .i64 (x.d.k : Nat), .string (mkB x.d.t), .bool x.d.n, .slice av x.d.r.length cv, .slice none 0 0, .int .i64 (x.dat : Nat), .int .i64 (x.pl : Nat)]) (by simp [results, Tryz.results28, go_sem, c0, c1, c2, c3, c4, c5, c6, c7, c8]) rfl ?_
            exact WPost.yes (x := x) (lv := .slice av x.d.r.length cv) HX.out rfl HKF.out HLF.out HSF.out
          · exact ⟨rfl, WPost.no (HE.out.trans hx) (HK1.out.trans (HK3.out.trans hk5))⟩
end Go.Proofs.YtkocmjmmflphnaaGreatDoor
