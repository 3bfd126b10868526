/- A piece whose rows are its own, those of each piece in it apart from all others; a row of such pieces that is changed one by one. No walk here. -/
import Derived.Test.YtbfcbicbeagjkaaDoorSxOwn
import Derived.Test.YtbfcbicbeagjkaaDoorSxPure
namespace Go.Proofs.YtbfcbicbeagjkaaDoor
open Go.RowKit

/-- The eight cells of a piece, all of whose rows are owned, and lie in blocks of S. -/
inductive SOwn (w : World) : (Nat → Prop) → Sx → List Value → Prop
  | mk {S : Nat → Prop} {k : Int} {t : ByteArray} {n : Bool} {r : List Nat} {l : List Sx} {a : Int} {m s : List Int} {lv av mv sv : Value} {us : List Value} {Fc : Nat → Nat → Prop} (ht : t.size ≤ maxLen) (hlim : ∀ x ∈ r, x < 4294967296)
      (hr : w.ownsRow 0 55 1 lv r.length (ucs r)) (hl : w.ownsRow 0 28 8 av l.length us) (hm : w.ownsRow 0 3 1 mv m.length (ics .i64 m)) (hs : w.ownsRow 0 3 1 sv s.length (ics .i64 s))
      (hrp : ∀ b, lv.ownBlock = some b → S b ∧ ∀ i, ¬ Fc i b) (hmp : ∀ b, mv.ownBlock = some b → S b ∧ ∀ i, ¬ Fc i b) (hsp : ∀ b, sv.ownBlock = some b → S b ∧ ∀ i, ¬ Fc i b) (hlp : ∀ b, av.ownBlock = some b → S b ∧ ∀ i, ¬ Fc i b)
      (hsub : ∀ i b, Fc i b → S b) (hdis : ∀ i j b, i ≠ j → Fc i b → ¬ Fc j b)
      (hin : ∀ (i : Nat) (h : i < l.length), SOwn w (Fc i) (l[i]'h) ((us.drop (i * 8)).take 8)) : SOwn w S (.mk k t n r l a m s) [.int .i64 k, .string t, .bool n, lv, av, .int .i64 a, mv, sv]
theorem SOwn.len {S : Nat → Prop} {w : World} {d : Sx} {us : List Value} (h : SOwn w S d us) : us.length = 8 := by cases h; rfl
theorem SOwn.layP {S : Nat → Prop} {w : World} {d : Sx} {us : List Value} (h : SOwn w S d us) : ∀ {Q : Nat → Prop}, (∀ b, S b → Q b) → SLayP Q w d us := by
  induction h with
  | mk ht hlim hr hl hm hs hrp hmp hsp hlp hsub hdis hin ih =>
    intro Q hq
    exact .mk ht hlim (RowV.of_own hr) (fun b _ hb => hq b (hrp b hb).1) (RowV.of_own hl) (fun b _ hb => hq b (hlp b hb).1) (RowV.of_own hm) (fun b _ hb => hq b (hmp b hb).1) (RowV.of_own hs) (fun b _ hb => hq b (hsp b hb).1) fun i hi => ih i hi fun b hb => hq b (hsub i b hb)
theorem SOwn.lay {S : Nat → Prop} {w : World} {d : Sx} {us : List Value} (h : SOwn w S d us) : SLay w d us := (h.layP (Q := S) fun _ h => h).lay
theorem SOwn.mono {S T : Nat → Prop} {w : World} {d : Sx} {us : List Value} (h : SOwn w S d us) (hq : ∀ b, S b → T b) : SOwn w T d us := by
  cases h with
  | mk ht hlim hr hl hm hs hrp hmp hsp hlp hsub hdis hin => exact .mk ht hlim hr hl hm hs (fun b hb => ⟨hq b (hrp b hb).1, (hrp b hb).2⟩) (fun b hb => ⟨hq b (hmp b hb).1, (hmp b hb).2⟩) (fun b hb => ⟨hq b (hsp b hb).1, (hsp b hb).2⟩) (fun b hb => ⟨hq b (hlp b hb).1, (hlp b hb).2⟩) (fun i b hb => hq b (hsub i b hb)) hdis hin
theorem SOwn.move {S : Nat → Prop} {w w' : World} {d : Sx} {us : List Value} (h : SOwn w S d us) : Keeps S w w' → SOwn w' S d us := by
  induction h with
  | mk ht hlim hr hl hm hs hrp hmp hsp hlp hsub hdis hin ih =>
    intro hk
    exact .mk ht hlim (ownsRow_keep hr hk fun b hb => (hrp b hb).1) (ownsRow_keep hl hk fun b hb => (hlp b hb).1) (ownsRow_keep hm hk fun b hb => (hmp b hb).1) (ownsRow_keep hs hk fun b hb => (hsp b hb).1) hrp hmp hsp hlp hsub hdis fun i hi => ih i hi (hk.mono fun b _ hb => hsub i b hb)
theorem SOwn.under {S : Nat → Prop} {w w' : World} {d : Sx} {us : List Value} (h : SOwn w S d us) (hb : Below w.heap.size w w') : SOwn w' S d us := h.move (Keeps.of_below hb)
/-- Its rows, opened. -/
theorem SOwn.row {S : Nat → Prop} {w : World} {k : Int} {t : ByteArray} {n : Bool} {r : List Nat} {l : List Sx} {a : Int} {m s : List Int} {cs : List Value} (h : SOwn w S (.mk k t n r l a m s) cs) :
    ∃ lv av mv sv us, ∃ Fc : Nat → Nat → Prop, cs = [.int .i64 k, .string t, .bool n, lv, av, .int .i64 a, mv, sv] ∧ t.size ≤ maxLen ∧ (∀ x ∈ r, x < 4294967296) ∧ w.ownsRow 0 55 1 lv r.length (ucs r) ∧ w.ownsRow 0 28 8 av l.length us ∧ w.ownsRow 0 3 1 mv m.length (ics .i64 m) ∧ w.ownsRow 0 3 1 sv s.length (ics .i64 s) ∧
      (∀ b, lv.ownBlock = some b → S b ∧ ∀ i, ¬ Fc i b) ∧ (∀ b, mv.ownBlock = some b → S b ∧ ∀ i, ¬ Fc i b) ∧ (∀ b, sv.ownBlock = some b → S b ∧ ∀ i, ¬ Fc i b) ∧ (∀ b, av.ownBlock = some b → S b ∧ ∀ i, ¬ Fc i b) ∧ (∀ i b, Fc i b → S b) ∧ (∀ i j b, i ≠ j → Fc i b → ¬ Fc j b) ∧ ∀ (i : Nat) (h : i < l.length), SOwn w (Fc i) (l[i]'h) ((us.drop (i * 8)).take 8) := by
  cases h with
  | mk ht hlim hr hl hm hs hrp hmp hsp hlp hsub hdis hin => exact ⟨_, _, _, _, _, _, rfl, ht, hlim, hr, hl, hm, hs, hrp, hmp, hsp, hlp, hsub, hdis, hin⟩
/-- With another wrap. -/
theorem SOwn.wear {S T : Nat → Prop} {w : World} {k : Int} {t : ByteArray} {n : Bool} {r : List Nat} {l : List Sx} {a : Int} {m s m' s' : List Int} {lv av mv sv mv' sv' : Value} (h : SOwn w S (.mk k t n r l a m s) [.int .i64 k, .string t, .bool n, lv, av, .int .i64 a, mv, sv])
    (hm : w.ownsRow 0 3 1 mv' m'.length (ics .i64 m')) (hs : w.ownsRow 0 3 1 sv' s'.length (ics .i64 s')) (hmT : ∀ b, mv'.ownBlock = some b → T b ∧ ¬ S b) (hsT : ∀ b, sv'.ownBlock = some b → T b ∧ ¬ S b) (hST : ∀ b, S b → T b) :
    SOwn w T (.mk k t n r l a m' s') [.int .i64 k, .string t, .bool n, lv, av, .int .i64 a, mv', sv'] := by
  obtain ⟨_, _, _, _, us, Fc, hcs, ht, hlim, hr, hl, _, _, hrp, _, _, hlp, hsub, hdis, hin⟩ := h.row
  simp only [List.cons.injEq, true_and, and_true] at hcs
  obtain ⟨rfl, rfl, rfl, rfl⟩ := hcs
  exact .mk ht hlim hr hl hm hs (fun b hb => ⟨hST b (hrp b hb).1, (hrp b hb).2⟩) (fun b hb => ⟨(hmT b hb).1, fun i hi => (hmT b hb).2 (hsub i b hi)⟩) (fun b hb => ⟨(hsT b hb).1, fun i hi => (hsT b hb).2 (hsub i b hi)⟩) (fun b hb => ⟨hST b (hlp b hb).1, (hlp b hb).2⟩) (fun i b hb => hST b (hsub i b hb)) hdis hin
/-- A row of pieces in block b, each with blocks of its own. -/
structure RowO (w : World) (b : Nat) (cs : Array Value) (T : Nat → Sx) (n : Nat) (Fc : Nat → Nat → Prop) : Prop where
  blk : w.heap[b]? = some (.cells cs 28 (0, 0))
  fit : n * 8 ≤ cs.size
  each : ∀ i, i < n → SOwn w (Fc i) (T i) ((cs.toList.drop (i * 8)).take 8)
  dis : ∀ i j c, i ≠ j → Fc i c → ¬ Fc j c
  off : ∀ i, ¬ Fc i b
  lt : ∀ i c, Fc i c → c < w.heap.size
def updT (T : Nat → Sx) (j : Nat) (d : Sx) : Nat → Sx := fun i => if i = j then d else T i
def updP (Fc : Nat → Nat → Prop) (j : Nat) (Q : Nat → Prop) : Nat → Nat → Prop := fun i => if i = j then Q else Fc i
theorem updT_self (T : Nat → Sx) (j : Nat) (d : Sx) : updT T j d j = d := by unfold updT; rw [if_pos rfl]
theorem updT_ne {T : Nat → Sx} {i j : Nat} {d : Sx} (h : i ≠ j) : updT T j d i = T i := by unfold updT; rw [if_neg h]
theorem updP_self (Fc : Nat → Nat → Prop) (j : Nat) (Q : Nat → Prop) : updP Fc j Q j = Q := by unfold updP; rw [if_pos rfl]
theorem updP_ne {Fc : Nat → Nat → Prop} {i j : Nat} {Q : Nat → Prop} (h : i ≠ j) : updP Fc j Q i = Fc i := by unfold updP; rw [if_neg h]
theorem RowO.step {w w' : World} {b : Nat} {cs cs' : Array Value} {T : Nat → Sx} {n n' : Nat} {Fc : Nat → Nat → Prop} (h : RowO w b cs T n Fc) {j : Nat} {d : Sx} {Q : Nat → Prop} (hblk : w'.heap[b]? = some (.cells cs' 28 (0, 0))) (hfit : n' * 8 ≤ cs'.size) (hn : ∀ i, i < n' → i ≠ j → i < n) (hout : ∀ i, i < n → i ≠ j → (cs'.toList.drop (i * 8)).take 8 = (cs.toList.drop (i * 8)).take 8)
    (hd : SOwn w' Q d ((cs'.toList.drop (j * 8)).take 8)) (hQ : ∀ c, Q c → (Fc j c ∨ w.heap.size ≤ c) ∧ c < w'.heap.size) (hk : Keeps (fun c => ¬ Fc j c ∧ c ≠ b) w w') : RowO w' b cs' (updT T j d) n' (updP Fc j Q) := by
  have hbl := (Array.getElem?_eq_some_iff.1 h.blk).1
  refine ⟨hblk, hfit, fun i hi => ?_, fun i1 i2 c hne h1 h2 => ?_, fun i hi => ?_, fun i c hc => ?_⟩
  · by_cases hij : i = j
    · subst hij; rw [updT_self, updP_self]; exact hd
    · rw [updT_ne hij, updP_ne hij, hout i (hn i hi hij) hij]
      exact (h.each i (hn i hi hij)).move (hk.mono fun c _ hc => ⟨h.dis i j c hij hc, fun e => h.off i (e ▸ hc)⟩)
  · by_cases e1 : i1 = j
    · subst e1
      have e2 : i2 ≠ i1 := fun e => hne e.symm
      rw [updP_self] at h1
      rw [updP_ne e2] at h2
      rcases (hQ c h1).1 with h3 | h3
      · exact h.dis i1 i2 c hne h3 h2
      · have := h.lt i2 c h2; omega
    · rw [updP_ne e1] at h1
      by_cases e2 : i2 = j
      · subst e2
        rw [updP_self] at h2
        rcases (hQ c h2).1 with h3 | h3
        · exact h.dis i1 i2 c hne h1 h3
        · have := h.lt i1 c h1; omega
      · rw [updP_ne e2] at h2
        exact h.dis i1 i2 c hne h1 h2
  · by_cases hij : i = j
    · subst hij
      rw [updP_self] at hi
      rcases (hQ b hi).1 with h3 | h3
      · exact h.off i h3
      · omega
    · rw [updP_ne hij] at hi; exact h.off i hi
  · by_cases hij : i = j
    · subst hij; rw [updP_self] at hc; exact (hQ c hc).2
    · rw [updP_ne hij] at hc
      exact Nat.lt_of_lt_of_le (h.lt i c hc) hk.1
theorem RowO.move {w w' : World} {b : Nat} {cs : Array Value} {T : Nat → Sx} {n : Nat} {Fc : Nat → Nat → Prop} (h : RowO w b cs T n Fc) (hk : Keeps (fun c => c = b ∨ ∃ i, Fc i c) w w') : RowO w' b cs T n Fc :=
  ⟨(hk.2 b (Array.getElem?_eq_some_iff.1 h.blk).1 (.inl rfl)).trans h.blk, h.fit, fun i hi => (h.each i hi).move (hk.mono fun c _ hc => .inr ⟨i, hc⟩), h.dis, h.off, fun i c hc => Nat.lt_of_lt_of_le (h.lt i c hc) hk.1⟩
/-- The row as an owned one, its pieces as a list. -/
theorem RowO.owns {w : World} {b : Nat} {cs : Array Value} {T : Nat → Sx} {n cap : Nat} {Fc : Nat → Nat → Prop} (h : RowO w b cs T n Fc) (hcap : n ≤ cap) (hm : cap ≤ maxLen) (hs : cs.size = cap * 8) : w.ownsRow 0 28 8 (.slice (some ⟨b, 0, none⟩) n cap) n (cs.toList.take (n * 8)) :=
  ⟨by rw [List.length_take, Array.length_toList, Nat.min_eq_left h.fit], .inr ⟨b, cap, cs, rfl, Nat.zero_le _, h.blk, hcap, hm, hs, rfl⟩⟩
theorem take_drop8 {l : List Value} {n i : Nat} (h : i < n) : ((l.take (n * 8)).drop (i * 8)).take 8 = (l.drop (i * 8)).take 8 := by
  rw [List.drop_take, List.take_take, Nat.min_eq_left (by omega)]
/-- Eight cells of a row. -/
theorem cells8_at {cs : List Value} {o : Nat} {u0 u1 u2 u3 u4 u5 u6 u7 : Value} (h : (cs.drop o).take 8 = [u0, u1, u2, u3, u4, u5, u6, u7]) : cs[o]? = some u0 ∧ cs[o + 1]? = some u1 ∧ cs[o + 2]? = some u2 ∧ cs[o + 3]? = some u3 ∧ cs[o + 4]? = some u4 ∧ cs[o + 5]? = some u5 ∧ cs[o + 6]? = some u6 ∧ cs[o + 7]? = some u7 := by
  have key : ∀ j, j < 8 → cs[o + j]? = ([u0, u1, u2, u3, u4, u5, u6, u7] : List Value)[j]? := fun j hj => by
    rw [← h, List.getElem?_take, if_pos hj, List.getElem?_drop]
  exact ⟨key 0 (by omega), key 1 (by omega), key 2 (by omega), key 3 (by omega), key 4 (by omega), key 5 (by omega), key 6 (by omega), key 7 (by omega)⟩
theorem at_cells8 {cs : List Value} {o : Nat} {u0 u1 u2 u3 u4 u5 u6 u7 : Value} (h0 : cs[o]? = some u0) (h1 : cs[o + 1]? = some u1) (h2 : cs[o + 2]? = some u2) (h3 : cs[o + 3]? = some u3) (h4 : cs[o + 4]? = some u4) (h5 : cs[o + 5]? = some u5) (h6 : cs[o + 6]? = some u6) (h7 : cs[o + 7]? = some u7) : (cs.drop o).take 8 = [u0, u1, u2, u3, u4, u5, u6, u7] := by
  apply List.ext_getElem?
  intro j
  rw [List.getElem?_take]
  split
  · next hj =>
    rw [List.getElem?_drop]
    match j, hj with
    | 0, _ => exact h0
    | 1, _ => exact h1
    | 2, _ => exact h2
    | 3, _ => exact h3
    | 4, _ => exact h4
    | 5, _ => exact h5
    | 6, _ => exact h6
    | 7, _ => exact h7
  · next hj => rw [List.getElem?_eq_none (by simp; omega)]
/-- Eight cells written at a place of a row. -/
def set8 (cs : Array Value) (o : Nat) (u0 u1 u2 u3 u4 u5 u6 u7 : Value) : Array Value := (((((((cs.setIfInBounds o u0).setIfInBounds (o + 1) u1).setIfInBounds (o + 2) u2).setIfInBounds (o + 3) u3).setIfInBounds (o + 4) u4).setIfInBounds (o + 5) u5).setIfInBounds (o + 6) u6).setIfInBounds (o + 7) u7
theorem set8_size (cs : Array Value) (o : Nat) (u0 u1 u2 u3 u4 u5 u6 u7 : Value) : (set8 cs o u0 u1 u2 u3 u4 u5 u6 u7).size = cs.size := by unfold set8; simp
theorem set8_out {cs : Array Value} {o : Nat} {u0 u1 u2 u3 u4 u5 u6 u7 : Value} {j : Nat} (h : j < o ∨ o + 8 ≤ j) : (set8 cs o u0 u1 u2 u3 u4 u5 u6 u7)[j]? = cs[j]? := by
  unfold set8
  simp only [Array.getElem?_setIfInBounds_ne (show o ≠ j by omega), Array.getElem?_setIfInBounds_ne (show o + 1 ≠ j by omega), Array.getElem?_setIfInBounds_ne (show o + 2 ≠ j by omega), Array.getElem?_setIfInBounds_ne (show o + 3 ≠ j by omega), Array.getElem?_setIfInBounds_ne (show o + 4 ≠ j by omega), Array.getElem?_setIfInBounds_ne (show o + 5 ≠ j by omega), Array.getElem?_setIfInBounds_ne (show o + 6 ≠ j by omega), Array.getElem?_setIfInBounds_ne (show o + 7 ≠ j by omega)]
theorem set_at {cs : Array Value} {i j : Nat} {u : Value} (h : i < cs.size) : (cs.setIfInBounds i u)[j]? = if i = j then some u else cs[j]? := by
  by_cases e : i = j
  · subst e; rw [if_pos rfl]; exact Array.getElem?_setIfInBounds_self_of_lt h
  · rw [if_neg e]; exact Array.getElem?_setIfInBounds_ne e
theorem drop8_eq {cs cs' : Array Value} {o : Nat} (h : ∀ j, o ≤ j → j < o + 8 → cs'[j]? = cs[j]?) : (cs'.toList.drop o).take 8 = (cs.toList.drop o).take 8 := by
  apply List.ext_getElem?
  intro j
  rw [List.getElem?_take, List.getElem?_take]
  split
  · next hj =>
    rw [List.getElem?_drop, List.getElem?_drop, Array.getElem?_toList, Array.getElem?_toList]
    exact h _ (by omega) (by omega)
  · rfl
theorem set8_in {cs : Array Value} {o : Nat} {u0 u1 u2 u3 u4 u5 u6 u7 : Value} (h : o + 8 ≤ cs.size) : ((set8 cs o u0 u1 u2 u3 u4 u5 u6 u7).toList.drop o).take 8 = [u0, u1, u2, u3, u4, u5, u6, u7] := by
  refine at_cells8 ?_ ?_ ?_ ?_ ?_ ?_ ?_ ?_
  all_goals
    rw [Array.getElem?_toList]
    unfold set8
    repeat rw [set_at (by (try simp only [Array.size_setIfInBounds]); omega)]
    simp
theorem RowO.cell {w : World} {b : Nat} {cs : Array Value} {T : Nat → Sx} {n : Nat} {Fc : Nat → Nat → Prop} (h : RowO w b cs T n Fc) {j : Nat} {v : Value} (hv : cs.toList[j]? = some v) : w.cell? ⟨b, j, none⟩ = some v := by
  rw [cell_heap h.blk j, ← Array.getElem?_toList]; exact hv
end Go.Proofs.YtbfcbicbeagjkaaDoor
