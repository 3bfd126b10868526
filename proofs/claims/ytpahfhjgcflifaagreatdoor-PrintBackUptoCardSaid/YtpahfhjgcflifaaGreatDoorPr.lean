/- A printer: what it holds, and what its methods put behind that. -/
import Derived.Test.YtpahfhjgcflifaaGreatDoorTkRQuo
import Derived.Deep.RegionHeldLaw
namespace Go.Proofs.YtpahfhjgcflifaaGreatDoor
open Go.RowKit

/-- Bytes as cells. -/
def bc (l : List Nat) : List Value := l.map fun x => Value.int .u8 ((x : Nat) : Int)
theorem bc_app (a b : List Nat) : bc (a ++ b) = bc a ++ bc b := by unfold bc; rw [List.map_append]
theorem bc_len (l : List Nat) : (bc l).length = l.length := by unfold bc; rw [List.length_map]
theorem bc_mk {t : List Nat} (h : By t) : Lib.strCells (mkB t) = bc t := by
  have e := byt_mk h
  unfold byt at e
  unfold Lib.strCells bc
  conv => rhs; rw [← e]
  rw [List.map_map]
  rfl
/-- A printer that holds these bytes. -/
def Pn (bs : List Nat) (b : Nat) (w : World) : Prop := Lib.IsBuilderF 79 5 b b (bc bs) w
theorem Pn.lt {bs : List Nat} {b : Nat} {w : World} (h : Pn bs b w) : b < w.heap.size := h.elim (fun x => x.lt) (fun x => x.lt)
theorem Pn.drew {bs : List Nat} {b : Nat} {w : World} (h : Pn bs b w) : Pn bs b w.drew := h
theorem Pn.below {bs : List Nat} {b : Nat} {w w' : World} (h : Pn bs b w) (hb : Below w.heap.size w w') : Pn bs b w' := isB_below h hb
theorem oth_below {e : TypeId} {b : Option Nat} {w w' : World} (hb : Below w.heap.size w w') : Lib.OthersKept e b w w' := fun k _ hk _ _ => (hb.block k (Array.getElem?_eq_some_iff.1 hk).1).trans hk
/-- From a world to one where the printer holds these bytes. -/
structure PnS (bs : List Nat) (b : Nat) (w w' : World) : Prop where
  pn : Pn bs b w'
  bel : Below b w w'
  oth : Lib.OthersKept 5 (some b) w w'
theorem PnS.refl {bs : List Nat} {b : Nat} {w : World} (h : Pn bs b w) : PnS bs b w w := ⟨h, Below.refl _ _, Lib.OthersKept.refl _ _ _⟩
theorem PnS.trans {bs cs : List Nat} {b : Nat} {w w' w'' : World} (h : PnS bs b w w') (h' : PnS cs b w' w'') : PnS cs b w w'' := ⟨h'.pn, h.bel.trans h'.bel, h.oth.trans h'.oth⟩
theorem PnS.step {bs : List Nat} {b : Nat} {w w' w'' : World} (h : PnS bs b w w') (hb : Below w'.heap.size w' w'') : PnS bs b w w'' :=
  ⟨h.pn.below hb, h.bel.trans (hb.mono (Nat.le_of_lt h.pn.lt)), h.oth.trans (oth_below hb)⟩
theorem PnS.box {bs : List Nat} {b g : Nat} {w w' : World} {cs : Array Value} (h : PnS bs b w w') (hg : w.heap[g]? = some (.cells cs 27 (0, 0))) (hne : g ≠ b) : w'.heap[g]? = some (.cells cs 27 (0, 0)) :=
  h.oth g _ hg (by simpa using hne) fun c fz e => by
    simp only [Obj.cells.injEq] at e
    exact absurd e.2.1 (by decide)
def PnP (bs : List Nat) (b : Nat) (w : World) (e : Ending) (w' : World) : Prop := e = .returned (.tuple #[]) ∧ PnS bs b w w'
theorem pn_start (w : World) : Pn [] w.heap.size (w.alloc (.cells #[.pointer none, .slice none 0 0] 79)) := bld_start w

theorem w_str {b : Nat} {bs t : List Nat} {s : ByteArray} {w : World} (hs : s = mkB t) (ht : By t) (h : Pn bs b w) (hl : bs.length + t.length ≤ 140737488355328) :
    Calls Tryz.prog 66 #[.pointer (some ⟨b, 0, none⟩), .string s] w fun e w' => e = .returned (.tuple #[.int .i64 s.size, .nilIface]) ∧ PnS (bs ++ t) b w w' := by
  refine (pr_string b b (bc bs) s w h (by rw [bc_len, hs, mkB_size]; exact hl) (Nat.le_of_lt h.lt)).mono ?_
  rintro e w' ⟨rfl, h1, h2, h3⟩
  refine ⟨rfl, ?_, h2, h3⟩
  rw [hs, bc_mk ht, ← bc_app] at h1
  exact .inr h1
theorem w_byte {b : Nat} {bs : List Nat} {c : Nat} {w : World} (h : Pn bs b w) (hl : bs.length + 1 ≤ 140737488355328) :
    Calls Tryz.prog 65 #[.pointer (some ⟨b, 0, none⟩), .int .u8 ((c : Nat) : Int)] w fun e w' => e = .returned .nilIface ∧ PnS (bs ++ [c]) b w w' := by
  refine (pr_byte b b (bc bs) ((c : Nat) : Int) w h (by rw [bc_len]; exact hl) (Nat.le_of_lt h.lt)).mono ?_
  rintro e w' ⟨rfl, h1, h2, h3⟩
  refine ⟨rfl, .inr ?_, h2, h3⟩
  rw [bc_app]
  exact h1
theorem w_done {b : Nat} {bs : List Nat} {w : World} (h : Pn bs b w) (h0 : bs ≠ []) (hby : By bs) :
    Calls Tryz.prog 40 #[.pointer (some ⟨b, 0, none⟩)] w fun e w' => e = .returned (.string (mkB bs)) ∧ Below b w w' := by
  have e : bc bs = Lib.byteCells (bs.map fun x => x.toUInt8) := by
    rw [← bc_mk hby]
    rfl
  unfold Pn at h
  rw [e] at h
  exact pr_done b b _ w h (by simpa using h0)
/-- What a printer's methods read of the tables. -/
structure PrT (w : World) : Prop where
  tabs : Tabs w
  words : Words w
  pow : Pow10 w
  bru : Bruijn w
theorem PrT.below {w w' : World} (h : PrT w) (hb : Below w.heap.size w w') : PrT w' := ⟨h.tabs.below hb (Nat.le_refl _), h.words.below hb, h.pow.below hb, cell_keep h.bru hb⟩
/-- The world w0 ahead of a printer, where the tables and the datums lie, and one that the printer has come to. -/
structure PrE (w0 : World) (b : Nat) (w : World) : Prop where
  tab : PrT w0
  le : w0.heap.size ≤ b
  bel : Below w0.heap.size w0 w
theorem PrE.t {w0 w : World} {b : Nat} (h : PrE w0 b w) : PrT w := h.tab.below h.bel
theorem PrE.step {w0 w w' : World} {b : Nat} {bs : List Nat} (h : PrE w0 b w) (h' : PnS bs b w w') : PrE w0 b w' := ⟨h.tab, h.le, h.bel.trans (h'.bel.mono h.le)⟩
theorem PrE.below {w0 w w' : World} {b : Nat} (h : PrE w0 b w) (hb : Below w.heap.size w w') : PrE w0 b w' := ⟨h.tab, h.le, h.bel.trans (hb.mono h.bel.size)⟩

set_option maxRecDepth 100000 in
set_option maxHeartbeats 4000000 in
theorem escx_92 (b : Nat) (bs : List Nat) (w : World) (h : Pn bs b w) (hl : bs.length ≤ 140000000000000) :
    Calls Tryz.prog 88 #[.pointer (some ⟨b, 0, none⟩), .int .u8 92] w (PnP (bs ++ escL 92) b w) := by
  have HP := Lib.hid h
  have HL := Lib.hid hl
  have HV : Hid (bs ++ escL 92 = (bs ++ [92]) ++ [92]) := Lib.hid (by rw [List.append_assoc]; rfl)
  clear h hl
  go_enter Tryz.func88, Tryz.ntmps88
  go_wp2_with fail
  refine (w_byte (c := 92) HP.out (by have := HL.out; omega)).mono ?_
  rintro e w1 ⟨rfl, h1⟩
  have H1 := Lib.hid h1
  clear h1
  go_wp2_with fail
  refine (w_byte (c := 92) H1.out.pn (by have := HL.out; rw [List.length_append]; simp; omega)).mono ?_
  rintro e w2 ⟨rfl, h2⟩
  have H2 := Lib.hid h2
  clear h2
  go_wp2_with fail
  go_end0
  exact ⟨rfl, by rw [HV.out]; exact H1.out.trans H2.out⟩
set_option maxRecDepth 100000 in
set_option maxHeartbeats 4000000 in
theorem escx_34 (b : Nat) (bs : List Nat) (w : World) (h : Pn bs b w) (hl : bs.length ≤ 140000000000000) :
    Calls Tryz.prog 88 #[.pointer (some ⟨b, 0, none⟩), .int .u8 34] w (PnP (bs ++ escL 34) b w) := by
  have HP := Lib.hid h
  have HL := Lib.hid hl
  have HV : Hid (bs ++ escL 34 = (bs ++ [92]) ++ [34]) := Lib.hid (by rw [List.append_assoc]; rfl)
  clear h hl
  go_enter Tryz.func88, Tryz.ntmps88
  go_wp2_with fail
  refine (w_byte (c := 92) HP.out (by have := HL.out; omega)).mono ?_
  rintro e w1 ⟨rfl, h1⟩
  have H1 := Lib.hid h1
  clear h1
  go_wp2_with fail
  refine (w_byte (c := 34) H1.out.pn (by have := HL.out; rw [List.length_append]; simp; omega)).mono ?_
  rintro e w2 ⟨rfl, h2⟩
  have H2 := Lib.hid h2
  clear h2
  go_wp2_with fail
  go_end0
  exact ⟨rfl, by rw [HV.out]; exact H1.out.trans H2.out⟩
set_option maxRecDepth 100000 in
set_option maxHeartbeats 4000000 in
theorem escx_10 (b : Nat) (bs : List Nat) (w : World) (h : Pn bs b w) (hl : bs.length ≤ 140000000000000) :
    Calls Tryz.prog 88 #[.pointer (some ⟨b, 0, none⟩), .int .u8 10] w (PnP (bs ++ escL 10) b w) := by
  have HP := Lib.hid h
  have HL := Lib.hid hl
  clear h hl
  go_enter Tryz.func88, Tryz.ntmps88
  go_wp2_with fail
  refine (w_str (t := [92, 110]) rfl (by_of (by decide)) HP.out (by have := HL.out; simp; omega)).mono ?_
  rintro e w1 ⟨rfl, h1⟩
  have H1 := Lib.hid h1
  clear h1
  go_wp2_with fail
  go_end0
  exact ⟨rfl, H1.out⟩
set_option maxRecDepth 100000 in
set_option maxHeartbeats 4000000 in
theorem escx_9 (b : Nat) (bs : List Nat) (w : World) (h : Pn bs b w) (hl : bs.length ≤ 140000000000000) :
    Calls Tryz.prog 88 #[.pointer (some ⟨b, 0, none⟩), .int .u8 9] w (PnP (bs ++ escL 9) b w) := by
  have HP := Lib.hid h
  have HL := Lib.hid hl
  clear h hl
  go_enter Tryz.func88, Tryz.ntmps88
  go_wp2_with fail
  refine (w_str (t := [92, 116]) rfl (by_of (by decide)) HP.out (by have := HL.out; simp; omega)).mono ?_
  rintro e w1 ⟨rfl, h1⟩
  have H1 := Lib.hid h1
  clear h1
  go_wp2_with fail
  go_end0
  exact ⟨rfl, H1.out⟩
set_option maxRecDepth 100000 in
set_option maxHeartbeats 4000000 in
theorem escx_13 (b : Nat) (bs : List Nat) (w : World) (h : Pn bs b w) (hl : bs.length ≤ 140000000000000) :
    Calls Tryz.prog 88 #[.pointer (some ⟨b, 0, none⟩), .int .u8 13] w (PnP (bs ++ escL 13) b w) := by
  have HP := Lib.hid h
  have HL := Lib.hid hl
  clear h hl
  go_enter Tryz.func88, Tryz.ntmps88
  go_wp2_with fail
  refine (w_str (t := [92, 114]) rfl (by_of (by decide)) HP.out (by have := HL.out; simp; omega)).mono ?_
  rintro e w1 ⟨rfl, h1⟩
  have H1 := Lib.hid h1
  clear h1
  go_wp2_with fail
  go_end0
  exact ⟨rfl, H1.out⟩
set_option maxRecDepth 100000 in
set_option maxHeartbeats 4000000 in
theorem escx_any (b : Nat) (bs : List Nat) (c : Nat) (w : World) (n1 : c ≠ 92) (n2 : c ≠ 34) (n3 : c ≠ 10) (n4 : c ≠ 9) (n5 : c ≠ 13) (n6 : 32 ≤ c) (n7 : c ≠ 127) (h : Pn bs b w) (hl : bs.length ≤ 140000000000000) :
    Calls Tryz.prog 88 #[.pointer (some ⟨b, 0, none⟩), .int .u8 ((c : Nat) : Int)] w (PnP (bs ++ escL c) b w) := by
  have HP := Lib.hid h
  have HL := Lib.hid hl
  have HV : Hid (escL c = [c]) := Lib.hid (esc_plain n1 n2 n3 n4 n5 n6 n7)
  have q1 : (((c : Nat) : Int) == 92) = false := by simp; omega
  have q2 : (((c : Nat) : Int) == 34) = false := by simp; omega
  have q3 : (((c : Nat) : Int) == 10) = false := by simp; omega
  have q4 : (((c : Nat) : Int) == 9) = false := by simp; omega
  have q5 : (((c : Nat) : Int) == 13) = false := by simp; omega
  have q6 : ¬ ((c : Nat) : Int) < 32 := by omega
  have q7 : (((c : Nat) : Int) == 127) = false := by simp; omega
  clear h hl n1 n2 n3 n4 n5 n6 n7
  go_enter Tryz.func88, Tryz.ntmps88
  go_wp2_with fail
  refine (w_byte (c := c) HP.out (by have := HL.out; omega)).mono ?_
  rintro e w1 ⟨rfl, h1⟩
  have H1 := Lib.hid h1
  clear h1
  go_wp2_with fail
  go_end0
  exact ⟨rfl, by rw [HV.out]; exact H1.out⟩
theorem hexL_by {c : Nat} (h : c < 256) : By (hexL c) ∧ (hexL c).length ≤ 2 := by
  unfold hexL
  split
  · refine ⟨fun i => ?_, by simp⟩
    unfold limb hexc
    match i with
    | 0 => simp; split <;> omega
    | i + 1 => simp
  · refine ⟨fun i => ?_, by simp⟩
    unfold limb hexc
    match i with
    | 0 => simp; split <;> omega
    | 1 => simp; split <;> omega
    | i + 2 => simp
theorem By.consN' {a : Nat} {l : List Nat} (ha : a < 256) (h : By l) : By (a :: l) := fun i => by
  cases i with
  | zero => exact ha
  | succ i => exact h i
theorem mkB_hex (c : Nat) : ByteArray.mk #[92, 120] ++ mkB (hexL c) ++ ByteArray.mk #[59] = mkB (92 :: 120 :: (hexL c ++ [59])) := by
  unfold mkB
  apply ByteArray.ext
  simp
set_option maxRecDepth 100000 in
set_option maxHeartbeats 4000000 in
theorem escx_hex (b : Nat) (bs : List Nat) (c : Nat) (w : World) (hc : c < 256) (n1 : c ≠ 92) (n2 : c ≠ 34) (n3 : c ≠ 10) (n4 : c ≠ 9) (n5 : c ≠ 13) (n6 : c < 32 ∨ c = 127) (h : Pn bs b w) (hl : bs.length ≤ 140000000000000) (hb : Bruijn w) :
    Calls Tryz.prog 88 #[.pointer (some ⟨b, 0, none⟩), .int .u8 ((c : Nat) : Int)] w (PnP (bs ++ escL c) b w) := by
  have HP := Lib.hid h
  have HL := Lib.hid hl
  have HV : Hid (escL c = 92 :: 120 :: (hexL c ++ [59])) := Lib.hid (by unfold escL; rw [if_neg (by omega), if_neg n3, if_neg n4, if_neg n5, if_pos n6])
  have HB := Lib.hid hb
  have HC := Lib.hid hc
  have HX := Lib.hid (hexL_by hc)
  have q0 : 0 ≤ ((c : Nat) : Int) ∧ ((c : Nat) : Int) < 256 := by omega
  have q1 : (((c : Nat) : Int) == 92) = false := by simp; omega
  have q2 : (((c : Nat) : Int) == 34) = false := by simp; omega
  have q3 : (((c : Nat) : Int) == 10) = false := by simp; omega
  have q4 : (((c : Nat) : Int) == 9) = false := by simp; omega
  have q5 : (((c : Nat) : Int) == 13) = false := by simp; omega
  have q6 : (decide (((c : Nat) : Int) < 32) || (((c : Nat) : Int) == 127)) = true := by rcases n6 with h | h <;> simp <;> omega
  have hw : IntKind.i64.wrap ((c : Nat) : Int) = ((c : Nat) : Int) := wrap_nat (by omega)
  have HXB : Hid (By (92 :: 120 :: (hexL c ++ [59]))) := Lib.hid (By.consN' (by omega) (By.consN' (by omega) (HX.out.1.app (by_of (by decide)))))
  have hz : (mkB (hexL c)).size ≤ 2 := by rw [mkB_size]; exact HX.out.2
  clear h hl n1 n2 n3 n4 n5 hb hc
  go_enter Tryz.func88, Tryz.ntmps88
  rcases n6 with h | h
  · have q7 : ((c : Nat) : Int) < 32 := by omega
    clear h q6
    go_wp2_with fail
    have HPD : Hid (Pn bs b w.drew) := Lib.hid HP.out.drew
    have hbd : Bruijn w.drew := HB.out
    go_region_held_law (fun _ => True) (exact trivial)
      (first
        | (go_simp; go_at_call 107; refine (fmt_16 c HC.out w.drew hbd).mono ?_; rintro e w1 ⟨rfl, hb1⟩)
        | (go_simp; go_at_call 66; refine (w_str (t := 92 :: 120 :: (hexL c ++ [59])) (mkB_hex c) HXB.out (HPD.out.below hb1) (by have := HL.out; have := HX.out.2; simp; omega)).mono ?_; rintro e w2 ⟨rfl, h2⟩))
    all_goals
      go_wp2_with fail
      go_end0
      refine ⟨rfl, ?_⟩
      rw [HV.out]
      exact (((PnS.refl HP.out).step ((Below.refl w.heap.size w).drew)).step hb1).trans h2
  · have q7 : ¬ ((c : Nat) : Int) < 32 := by omega
    have q8 : (((c : Nat) : Int) == 127) = true := by simp; omega
    clear h q6
    go_wp2_with fail
    have HPD : Hid (Pn bs b w.drew) := Lib.hid HP.out.drew
    have hbd : Bruijn w.drew := HB.out
    go_region_held_law (fun _ => True) (exact trivial)
      (first
        | (go_simp; go_at_call 107; refine (fmt_16 c HC.out w.drew hbd).mono ?_; rintro e w1 ⟨rfl, hb1⟩)
        | (go_simp; go_at_call 66; refine (w_str (t := 92 :: 120 :: (hexL c ++ [59])) (mkB_hex c) HXB.out (HPD.out.below hb1) (by have := HL.out; have := HX.out.2; simp; omega)).mono ?_; rintro e w2 ⟨rfl, h2⟩))
    all_goals
      go_wp2_with fail
      go_end0
      refine ⟨rfl, ?_⟩
      rw [HV.out]
      exact (((PnS.refl HP.out).step ((Below.refl w.heap.size w).drew)).step hb1).trans h2
theorem escaped_any (b : Nat) (bs : List Nat) (c : Nat) (w : World) (hc : c < 256) (h : Pn bs b w) (hl : bs.length ≤ 140000000000000) (hb : Bruijn w) :
    Calls Tryz.prog 88 #[.pointer (some ⟨b, 0, none⟩), .int .u8 ((c : Nat) : Int)] w (PnP (bs ++ escL c) b w) := by
  by_cases n1 : c = 92
  · subst n1; exact escx_92 b bs w h hl
  by_cases n2 : c = 34
  · subst n2; exact escx_34 b bs w h hl
  by_cases n3 : c = 10
  · subst n3; exact escx_10 b bs w h hl
  by_cases n4 : c = 9
  · subst n4; exact escx_9 b bs w h hl
  by_cases n5 : c = 13
  · subst n5; exact escx_13 b bs w h hl
  by_cases n6 : c < 32 ∨ c = 127
  · exact escx_hex b bs c w hc n1 n2 n3 n4 n5 n6 h hl hb
  · exact escx_any b bs c w n1 n2 n3 n4 n5 (by omega) (by omega) h hl
theorem take_snoc {l : List Nat} {q : Nat} (h : q < l.length) : l.take (q + 1) = l.take q ++ [limb l q] := by
  rw [List.take_add_one]
  unfold limb
  simp [h]
theorem qup_le (bs : List Nat) (k : Nat) : (qup bs k).length ≤ 5 * bs.length + 1 := qup_len
theorem qup_one {bs : List Nat} {q : Nat} (h : q < bs.length) : qup bs (q + 1) = qup bs q ++ escL (limb bs q) := by
  unfold qup
  rw [take_snoc h, List.flatMap_append]
  simp
set_option maxRecDepth 100000 in
set_option maxHeartbeats 4000000 in
/-- A string between quotes. -/
theorem pquoted_any (b : Nat) (bs : List Nat) (s : ByteArray) (w : World) (hs : s.size ≤ 100000000) (h : Pn bs b w) (hl : bs.length ≤ 100000000000000) (w0 : World) (hb : PrE w0 b w) :
    Calls Tryz.prog 67 #[.pointer (some ⟨b, 0, none⟩), .string s] w (PnP (bs ++ quoT (byt s)) b w) := by
  have HP := Lib.hid h
  have HL := Lib.hid hl
  have HB := Lib.hid hb
  have HBL : Hid ((byt s).length = s.size) := Lib.hid (byt_len s)
  have HBY := Lib.hid (byt_by s)
  have HS := Lib.hid hs
  have HLB : Hid (∀ i (h : i < s.size), (s.data[i]'h).toNat = limb (byt s) i) := Lib.hid fun i hi => (byt_limb hi).symm
  clear h hl hb
  have hbn := HP.out.lt
  go_enter Tryz.func67, Tryz.ntmps67
  go_wp2_with fail
  refine (w_byte (c := 34) HP.out (by have := HL.out; omega)).mono ?_
  rintro e w1 ⟨rfl, h1⟩
  have H1 := Lib.hid h1
  clear h1
  go_wp2_with fail
  go_loopw [11] (fun i wr => ∃ q : Nat, q ≤ s.size ∧ i = .int .i64 (q : Nat) ∧ PnS (bs ++ qup (byt s) q) b w wr) (fun i _ => s.size - (intOf i).toNat)
  case atStart => exact ⟨0, Nat.zero_le _, rfl, by unfold qup; simpa using H1.out⟩
  case round =>
    obtain ⟨q, hq, rfl, hpn⟩ := hrel
    have HR := Lib.hid hpn
    clear hpn
    by_cases hqn : q < s.size
    · have hii : ((q : Nat) : Int) < ((s.size : Nat) : Int) := by omega
      have HV := Lib.hid (qup_one (bs := byt s) (q := q) (by rw [HBL.out]; exact hqn))
      have HG := Lib.hid (HLB.out q hqn)
      have hgl : limb (byt s) q < 256 := HBY.out q
      go_wp2_with fail
      have e : (s[q]'hqn).toNat = limb (byt s) q := HG.out
      rw [e]
      refine (escaped_any b (bs ++ qup (byt s) q) (limb (byt s) q) wr hgl HR.out.pn (by have := HL.out; have := qup_le (byt s) q; have := HBL.out; rw [List.length_append]; omega) (HB.out.step HR.out).t.bru).mono ?_
      rintro e w3 ⟨rfl, h3⟩
      rw [List.append_assoc, ← HV.out] at h3
      have H3 := Lib.hid (HR.out.trans h3)
      clear h3 e
      go_wp2_with fail
      go_roundw
      case measure => simp only [intOf]; omega
      case rel => exact ⟨q + 1, by omega, by go_num, H3.out⟩
    · obtain rfl : q = s.size := by omega
      go_wp2_with fail
      refine (w_byte (c := 34) HR.out.pn (by have := HL.out; have := qup_le (byt s) s.size; have := HBL.out; rw [List.length_append]; omega)).mono ?_
      rintro e w3 ⟨rfl, h3⟩
      have HV : Hid (bs ++ qup (byt s) s.size ++ [34] = bs ++ quoT (byt s)) := Lib.hid (by rw [List.append_assoc, ← HBL.out, qup_end])
      rw [HV.out] at h3
      have H3 := Lib.hid (HR.out.trans h3)
      clear h3
      go_wp2_with fail
      go_end0
      exact ⟨rfl, H3.out⟩
theorem quoT_by' {l : List Nat} (h : By l) : By (quoT l) := by
  have esc : ∀ c, c < 256 → By (escL c) := fun c hc => by
    unfold escL
    split
    · exact By.consN' (by omega) (By.consN' hc By.nil)
    split
    · exact by_of (by decide)
    split
    · exact by_of (by decide)
    split
    · exact by_of (by decide)
    split
    · exact By.consN' (by omega) (By.consN' (by omega) ((hexL_by hc).1.app (by_of (by decide))))
    · exact By.consN' hc By.nil
  have all : ∀ l : List Nat, By l → By (l.flatMap escL) := fun l => by
    induction l with
    | nil => intro _; exact By.nil
    | cons a l ih =>
      intro h
      rw [List.flatMap_cons]
      exact (esc a (h 0)).app (ih fun i => h (i + 1))
  exact By.consN' (by omega) ((all l h).app (by_of (by decide)))
set_option maxRecDepth 100000 in
set_option maxHeartbeats 4000000 in
/-- What can't be read again. -/
theorem strange_any (b : Nat) (bs t : List Nat) (w : World) (ht : By t) (hlt : t.length ≤ 10000000) (h : Pn bs b w) (hl : bs.length ≤ 100000000000000) :
    Calls Tryz.prog 70 #[.pointer (some ⟨b, 0, none⟩), .string (mkB t)] w (PnP (bs ++ 35 :: 60 :: (t ++ [62])) b w) := by
  have HP := Lib.hid h
  have HL := Lib.hid hl
  have HT := Lib.hid ht
  have HLT := Lib.hid hlt
  have HV : Hid (((bs ++ [35, 60]) ++ t) ++ [62] = bs ++ 35 :: 60 :: (t ++ [62])) := Lib.hid (by simp)
  clear h hl ht hlt
  go_enter Tryz.func70, Tryz.ntmps70
  go_wp2_with fail
  refine (w_str (t := [35, 60]) rfl (by_of (by decide)) HP.out (by have := HL.out; simp; omega)).mono ?_
  rintro e w1 ⟨rfl, h1⟩
  have H1 := Lib.hid h1
  clear h1
  go_wp2_with fail
  refine (w_str (t := t) rfl HT.out H1.out.pn (by have := HL.out; have := HLT.out; simp; omega)).mono ?_
  rintro e w2 ⟨rfl, h2⟩
  have H2 := Lib.hid (H1.out.trans h2)
  clear h2
  go_wp2_with fail
  refine (w_byte (c := 62) H2.out.pn (by have := HL.out; have := HLT.out; simp; omega)).mono ?_
  rintro e w3 ⟨rfl, h3⟩
  have H3 := Lib.hid (H2.out.trans h3)
  clear h3
  go_wp2_with fail
  go_end0
  exact ⟨rfl, by rw [← HV.out]; exact H3.out⟩
end Go.Proofs.YtpahfhjgcflifaaGreatDoor
