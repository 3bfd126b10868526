/- law10's symbols: is a Symbol in a piece? | Three wraps around one another are the same, whichever two are joined first. No walk here. | What a wrap around, opening and flattening make of a piece, and which pieces mean the same. No walk here. | A piece whose rows are its own, those of each piece in it apart from all others; a row of such pieces that is changed one by one. No walk here. -/
import Derived.Test.YtbfcbicbeagjkaaGreatDoorSxLight
import Derived.Test.YtbfcbicbeagjkaaGreatDoorTkSc
import Derived.Test.YtbfcbicbeagjkaaGreatDoorSxMath
import Derived.Test.YtbfcbicbeagjkaaGreatDoorSxEq
import Derived.Test.YtbfcbicbeagjkaaGreatDoorRdLight
import Derived.Test.YtbfcbicbeagjkaaGreatDoorSxDat
namespace Go.Proofs.YtbfcbicbeagjkaaGreatDoor
open Go.RowKit

end Go.Proofs.YtbfcbicbeagjkaaGreatDoor
namespace Go.Proofs.YtbfcbicbeagjkaaGreatDoor
open Go.RowKit

end Go.Proofs.YtbfcbicbeagjkaaGreatDoor
namespace Go.Proofs.YtbfcbicbeagjkaaGreatDoor
open Go.RowKit

/-- With another wrap. -/
def reS (m s : List Int) : Sx → Sx
  | .mk k t n r l a _ _ => .mk k t n r l a m s
theorem sameS_refl : ∀ {f : Nat} {D : Sx}, dpB f D = true → sameS f D D = true := by
  intro f
  induction f with
  | zero => intro D h; cases h
  | succ f ih =>
    intro D h
    obtain ⟨k, t, n, r, l, a, m, s⟩ := D
    unfold dpB at h
    exact sameS_iff.2 ⟨rfl, rfl, ⟨rfl, rfl⟩, rfl, rfl, rfl, fun j hj _ => ih (List.all_eq_true.1 h _ (List.getElem_mem hj))⟩
theorem light_dp : ∀ {f : Nat} {D : Sx}, lightS f D = true → dpB f D = true := by
  intro f
  induction f with
  | zero => intro D h; cases h
  | succ f ih =>
    intro D h
    obtain ⟨_, _, _, hl⟩ := lightS_mem h
    exact dpB_yes fun j hj => ih (hl j hj)
end Go.Proofs.YtbfcbicbeagjkaaGreatDoor
namespace Go.Proofs.YtbfcbicbeagjkaaGreatDoor
open Go.RowKit

/-- The eight cells of a piece, all of whose rows are owned, and lie in blocks of S. -/
inductive SOwn (w : World) : (Nat → Prop) → Sx → List Value → Prop
  | mk {S : Nat → Prop} {k : Int} {t : ByteArray} {n : Bool} {r : List Nat} {l : List Sx} {a : Int} {m s : List Int} {lv av mv sv : Value} {us : List Value} {Fc : Nat → Nat → Prop} (ht : t.size ≤ maxLen) (hlim : ∀ x ∈ r, x < 4294967296)
      (hr : w.ownsRow 0 140 1 lv r.length (ucs r)) (hl : w.ownsRow 0 35 8 av l.length us) (hm : w.ownsRow 0 3 1 mv m.length (ics .i64 m)) (hs : w.ownsRow 0 3 1 sv s.length (ics .i64 s))
      (hrp : ∀ b, lv.ownBlock = some b → S b ∧ ∀ i, ¬ Fc i b) (hmp : ∀ b, mv.ownBlock = some b → S b ∧ ∀ i, ¬ Fc i b) (hsp : ∀ b, sv.ownBlock = some b → S b ∧ ∀ i, ¬ Fc i b) (hlp : ∀ b, av.ownBlock = some b → S b ∧ ∀ i, ¬ Fc i b)
      (hsub : ∀ i b, Fc i b → S b) (hdis : ∀ i j b, i ≠ j → Fc i b → ¬ Fc j b)
      (hin : ∀ (i : Nat) (h : i < l.length), SOwn w (Fc i) (l[i]'h) ((us.drop (i * 8)).take 8)) : SOwn w S (.mk k t n r l a m s) [.int .i64 k, .string t, .bool n, lv, av, .int .i64 a, mv, sv]
theorem SOwn.len {S : Nat → Prop} {w : World} {d : Sx} {us : List Value} (h : SOwn w S d us) : us.length = 8 := by cases h; rfl
theorem SOwn.layP {S : Nat → Prop} {w : World} {d : Sx} {us : List Value} (h : SOwn w S d us) : ∀ {Q : Nat → Prop}, (∀ b, S b → Q b) → SLayP Q w d us := by
  induction h with
  | mk ht hlim hr hl hm hs hrp hmp hsp hlp hsub hdis hin ih =>
    intro Q hq
    exact .mk ht hlim (RowV.of_own hr) (fun b _ hb => hq b (hrp b hb).1) (RowV.of_own hl) (fun b _ hb => hq b (hlp b hb).1) (RowV.of_own hm) (fun b _ hb => hq b (hmp b hb).1) (RowV.of_own hs) (fun b _ hb => hq b (hsp b hb).1) fun i hi => ih i hi fun b hb => hq b (hsub i b hb)
theorem SOwn.lay {S : Nat → Prop} {w : World} {d : Sx} {us : List Value} (h : SOwn w S d us) : SLay w d us := (h.layP (Q := S) fun _ h => h).lay
theorem SOwn.mono {S T : Nat → Prop} {w : World} {d : Sx} {us : List Value} (h : SOwn w S d us) (hq : ∀ b, S b → T b) : SOwn w T d us := by
  cases h with
  | mk ht hlim hr hl hm hs hrp hmp hsp hlp hsub hdis hin => exact .mk ht hlim hr hl hm hs (fun b hb => ⟨hq b (hrp b hb).1, (hrp b hb).2⟩) (fun b hb => ⟨hq b (hmp b hb).1, (hmp b hb).2⟩) (fun b hb => ⟨hq b (hsp b hb).1, (hsp b hb).2⟩) (fun b hb => ⟨hq b (hlp b hb).1, (hlp b hb).2⟩) (fun i b hb => hq b (hsub i b hb)) hdis hin
theorem SOwn.move {S : Nat → Prop} {w w' : World} {d : Sx} {us : List Value} (h : SOwn w S d us) : Keeps S w w' → SOwn w' S d us := by
  induction h with
  | mk ht hlim hr hl hm hs hrp hmp hsp hlp hsub hdis hin ih =>
    intro hk
    exact .mk ht hlim (ownsRow_keep hr hk fun b hb => (hrp b hb).1) (ownsRow_keep hl hk fun b hb => (hlp b hb).1) (ownsRow_keep hm hk fun b hb => (hmp b hb).1) (ownsRow_keep hs hk fun b hb => (hsp b hb).1) hrp hmp hsp hlp hsub hdis fun i hi => ih i hi (hk.mono fun b _ hb => hsub i b hb)
/-- Its rows, opened. -/
theorem SOwn.row {S : Nat → Prop} {w : World} {k : Int} {t : ByteArray} {n : Bool} {r : List Nat} {l : List Sx} {a : Int} {m s : List Int} {cs : List Value} (h : SOwn w S (.mk k t n r l a m s) cs) :
    ∃ lv av mv sv us, ∃ Fc : Nat → Nat → Prop, cs = [.int .i64 k, .string t, .bool n, lv, av, .int .i64 a, mv, sv] ∧ t.size ≤ maxLen ∧ (∀ x ∈ r, x < 4294967296) ∧ w.ownsRow 0 140 1 lv r.length (ucs r) ∧ w.ownsRow 0 35 8 av l.length us ∧ w.ownsRow 0 3 1 mv m.length (ics .i64 m) ∧ w.ownsRow 0 3 1 sv s.length (ics .i64 s) ∧
      (∀ b, lv.ownBlock = some b → S b ∧ ∀ i, ¬ Fc i b) ∧ (∀ b, mv.ownBlock = some b → S b ∧ ∀ i, ¬ Fc i b) ∧ (∀ b, sv.ownBlock = some b → S b ∧ ∀ i, ¬ Fc i b) ∧ (∀ b, av.ownBlock = some b → S b ∧ ∀ i, ¬ Fc i b) ∧ (∀ i b, Fc i b → S b) ∧ (∀ i j b, i ≠ j → Fc i b → ¬ Fc j b) ∧ ∀ (i : Nat) (h : i < l.length), SOwn w (Fc i) (l[i]'h) ((us.drop (i * 8)).take 8) := by
  cases h with
  | mk ht hlim hr hl hm hs hrp hmp hsp hlp hsub hdis hin => exact ⟨_, _, _, _, _, _, rfl, ht, hlim, hr, hl, hm, hs, hrp, hmp, hsp, hlp, hsub, hdis, hin⟩
/-- With another wrap. -/
theorem SOwn.wear {S T : Nat → Prop} {w : World} {k : Int} {t : ByteArray} {n : Bool} {r : List Nat} {l : List Sx} {a : Int} {m s m' s' : List Int} {lv av mv sv mv' sv' : Value} (h : SOwn w S (.mk k t n r l a m s) [.int .i64 k, .string t, .bool n, lv, av, .int .i64 a, mv, sv])
    (hm : w.ownsRow 0 3 1 mv' m'.length (ics .i64 m')) (hs : w.ownsRow 0 3 1 sv' s'.length (ics .i64 s')) (hmT : ∀ b, mv'.ownBlock = some b → T b ∧ ¬ S b) (hsT : ∀ b, sv'.ownBlock = some b → T b ∧ ¬ S b) (hST : ∀ b, S b → T b) :
    SOwn w T (.mk k t n r l a m' s') [.int .i64 k, .string t, .bool n, lv, av, .int .i64 a, mv', sv'] := by
  obtain ⟨_, _, _, _, us, Fc, hcs, ht, hlim, hr, hl, _, _, hrp, _, _, hlp, hsub, hdis, hin⟩ := h.row
  simp only [List.cons.injEq, true_and, and_true] at hcs
  obtain ⟨rfl, rfl, rfl, rfl⟩ := hcs
  exact .mk ht hlim hr hl hm hs (fun b hb => ⟨hST b (hrp b hb).1, (hrp b hb).2⟩) (fun b hb => ⟨(hmT b hb).1, fun i hi => (hmT b hb).2 (hsub i b hi)⟩) (fun b hb => ⟨(hsT b hb).1, fun i hi => (hsT b hb).2 (hsub i b hi)⟩) (fun b hb => ⟨hST b (hlp b hb).1, (hlp b hb).2⟩) (fun i b hb => hST b (hsub i b hb)) hdis hin
/-- A row of pieces in block b, each with blocks of its own. -/
structure RowO (w : World) (b : Nat) (cs : Array Value) (T : Nat → Sx) (n : Nat) (Fc : Nat → Nat → Prop) : Prop where
  blk : w.heap[b]? = some (.cells cs 35 (0, 0))
  fit : n * 8 ≤ cs.size
  each : ∀ i, i < n → SOwn w (Fc i) (T i) ((cs.toList.drop (i * 8)).take 8)
  dis : ∀ i j c, i ≠ j → Fc i c → ¬ Fc j c
  off : ∀ i, ¬ Fc i b
  lt : ∀ i c, Fc i c → c < w.heap.size
def updT (T : Nat → Sx) (j : Nat) (d : Sx) : Nat → Sx := fun i => if i = j then d else T i
def updP (Fc : Nat → Nat → Prop) (j : Nat) (Q : Nat → Prop) : Nat → Nat → Prop := fun i => if i = j then Q else Fc i
theorem updT_self (T : Nat → Sx) (j : Nat) (d : Sx) : updT T j d j = d := by unfold updT; rw [if_pos rfl]
theorem updT_ne {T : Nat → Sx} {i j : Nat} {d : Sx} (h : i ≠ j) : updT T j d i = T i := by unfold updT; rw [if_neg h]
theorem updP_self (Fc : Nat → Nat → Prop) (j : Nat) (Q : Nat → Prop) : updP Fc j Q j = Q := by unfold updP; rw [if_pos rfl]
theorem updP_ne {Fc : Nat → Nat → Prop} {i j : Nat} {Q : Nat → Prop} (h : i ≠ j) : updP Fc j Q i = Fc i := by unfold updP; rw [if_neg h]
theorem RowO.step {w w' : World} {b : Nat} {cs cs' : Array Value} {T : Nat → Sx} {n n' : Nat} {Fc : Nat → Nat → Prop} (h : RowO w b cs T n Fc) {j : Nat} {d : Sx} {Q : Nat → Prop} (hblk : w'.heap[b]? = some (.cells cs' 35 (0, 0))) (hfit : n' * 8 ≤ cs'.size) (hn : ∀ i, i < n' → i ≠ j → i < n) (hout : ∀ i, i < n → i ≠ j → (cs'.toList.drop (i * 8)).take 8 = (cs.toList.drop (i * 8)).take 8)
    (hd : SOwn w' Q d ((cs'.toList.drop (j * 8)).take 8)) (hQ : ∀ c, Q c → (Fc j c ∨ w.heap.size ≤ c) ∧ c < w'.heap.size) (hk : Keeps (fun c => ¬ Fc j c ∧ c ≠ b) w w') : RowO w' b cs' (updT T j d) n' (updP Fc j Q) := by
  have hbl := (Array.getElem?_eq_some_iff.1 h.blk).1
  refine ⟨hblk, hfit, fun i hi => ?_, fun i1 i2 c hne h1 h2 => ?_, fun i hi => ?_, fun i c hc => ?_⟩
  · by_cases hij : i = j
    · subst hij; rw [updT_self, updP_self]; exact hd
    · rw [updT_ne hij, updP_ne hij, hout i (hn i hi hij) hij]
      exact (h.each i (hn i hi hij)).move (hk.mono fun c _ hc => ⟨h.dis i j c hij hc, fun e => h.off i (e ▸ hc)⟩)
  · by_cases e1 : i1 = j
    · subst e1
      have e2 : i2 ≠ i1 := fun e => hne e.symm
      rw [updP_self] at h1
      rw [updP_ne e2] at h2
      rcases (hQ c h1).1 with h3 | h3
      · exact h.dis i1 i2 c hne h3 h2
      · have := h.lt i2 c h2; omega
    · rw [updP_ne e1] at h1
      by_cases e2 : i2 = j
      · subst e2
        rw [updP_self] at h2
        rcases (hQ c h2).1 with h3 | h3
        · exact h.dis i1 i2 c hne h1 h3
        · have := h.lt i1 c h1; omega
      · rw [updP_ne e2] at h2
        exact h.dis i1 i2 c hne h1 h2
  · by_cases hij : i = j
    · subst hij
      rw [updP_self] at hi
      rcases (hQ b hi).1 with h3 | h3
      · exact h.off i h3
      · omega
    · rw [updP_ne hij] at hi; exact h.off i hi
  · by_cases hij : i = j
    · subst hij; rw [updP_self] at hc; exact (hQ c hc).2
    · rw [updP_ne hij] at hc
      exact Nat.lt_of_lt_of_le (h.lt i c hc) hk.1
theorem RowO.move {w w' : World} {b : Nat} {cs : Array Value} {T : Nat → Sx} {n : Nat} {Fc : Nat → Nat → Prop} (h : RowO w b cs T n Fc) (hk : Keeps (fun c => c = b ∨ ∃ i, Fc i c) w w') : RowO w' b cs T n Fc :=
  ⟨(hk.2 b (Array.getElem?_eq_some_iff.1 h.blk).1 (.inl rfl)).trans h.blk, h.fit, fun i hi => (h.each i hi).move (hk.mono fun c _ hc => .inr ⟨i, hc⟩), h.dis, h.off, fun i c hc => Nat.lt_of_lt_of_le (h.lt i c hc) hk.1⟩
/-- The row as an owned one, its pieces as a list. -/
theorem RowO.owns {w : World} {b : Nat} {cs : Array Value} {T : Nat → Sx} {n cap : Nat} {Fc : Nat → Nat → Prop} (h : RowO w b cs T n Fc) (hcap : n ≤ cap) (hm : cap ≤ maxLen) (hs : cs.size = cap * 8) : w.ownsRow 0 35 8 (.slice (some ⟨b, 0, none⟩) n cap) n (cs.toList.take (n * 8)) :=
  ⟨by rw [List.length_take, Array.length_toList, Nat.min_eq_left h.fit], .inr ⟨b, cap, cs, rfl, Nat.zero_le _, h.blk, hcap, hm, hs, rfl⟩⟩
theorem RowO.cell {w : World} {b : Nat} {cs : Array Value} {T : Nat → Sx} {n : Nat} {Fc : Nat → Nat → Prop} (h : RowO w b cs T n Fc) {j : Nat} {v : Value} (hv : cs.toList[j]? = some v) : w.cell? ⟨b, j, none⟩ = some v := by
  rw [cell_heap h.blk j, ← Array.getElem?_toList]; exact hv
end Go.Proofs.YtbfcbicbeagjkaaGreatDoor
