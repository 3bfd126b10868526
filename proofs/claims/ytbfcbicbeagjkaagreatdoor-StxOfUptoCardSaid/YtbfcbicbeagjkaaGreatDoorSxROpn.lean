/- A region whose order is drawn, and which ends with writes, one behind the other. No walk here. | slices.Clone of pieces; stx.copied: a piece with memory of its own. | stx.wear at any place of a block. | stx.flatten: each Symbol's wrap is what it means, and no other piece has one. | stx.open: a piece's wrap is put around the pieces in it. | stx.Push, Open, Flat. | What a law's drawn region 'p, e := Push(Own(x), w)' leaves. No walk here. | ref09.Flat, Same, Push. | ref09.Push. | ref09.Open. -/
import Derived.Test.YtbfcbicbeagjkaaGreatDoorOrdL
import Derived.Test.YtbfcbicbeagjkaaGreatDoorSxTree
import Derived.Test.YtbfcbicbeagjkaaGreatDoorSxOf
import Derived.StillTailTactics
import Derived.Test.YtbfcbicbeagjkaaGreatDoorSxStr
import Derived.Test.YtbfcbicbeagjkaaGreatDoorBase
import Derived.Test.YtbfcbicbeagjkaaGreatDoorSxEq
namespace Go.Proofs.YtbfcbicbeagjkaaGreatDoor
open Go.RowKit

end Go.Proofs.YtbfcbicbeagjkaaGreatDoor
namespace Go.Proofs.YtbfcbicbeagjkaaGreatDoor
open Go.RowKit

/-- A copy that is being made: its box, its result's, and its small rows. -/
structure CpI (w w5 : World) (xs zs : Array Value) (lv mv sv : Value) (r : List Nat) (m s : List Int) (wr : World) : Prop where
  x : wr.heap[w.heap.size]? = some (.cells xs 35 (0, 0))
  z : wr.heap[w.heap.size + 1]? = some (.cells zs 35 (0, 0))
  lr : wr.ownsRow 0 140 1 lv r.length (ucs r)
  mr : wr.ownsRow 0 3 1 mv m.length (ics .i64 m)
  sr : wr.ownsRow 0 3 1 sv s.length (ics .i64 s)
  bel : Below w.heap.size w wr
  ge : w5.heap.size ≤ wr.heap.size
theorem CpI.step {w w5 wr wr' : World} {xs zs : Array Value} {lv mv sv : Value} {r : List Nat} {m s : List Int} (h : CpI w w5 xs zs lv mv sv r m s wr) {b : Nat} (hp : ∀ g, (lv.ownBlock = some g ∨ mv.ownBlock = some g ∨ sv.ownBlock = some g) → g < w5.heap.size ∧ g ≠ b) (hX : w.heap.size + 1 < w5.heap.size) (hb0 : b ≠ w.heap.size) (hb1 : b ≠ w.heap.size + 1)
    (hk : Keeps (fun c => c < w5.heap.size ∧ c ≠ b) wr wr') (hb : Below w.heap.size w wr') : CpI w w5 xs zs lv mv sv r m s wr' :=
  ⟨(hk.2 _ (Array.getElem?_eq_some_iff.1 h.x).1 ⟨by omega, fun e => hb0 e.symm⟩).trans h.x, (hk.2 _ (Array.getElem?_eq_some_iff.1 h.z).1 ⟨by omega, fun e => hb1 e.symm⟩).trans h.z, ownsRow_keep h.lr hk fun g hg => hp g (.inl hg), ownsRow_keep h.mr hk fun g hg => hp g (.inr (.inl hg)), ownsRow_keep h.sr hk fun g hg => hp g (.inr (.inr hg)), hb, Nat.le_trans h.ge hk.1⟩
end Go.Proofs.YtbfcbicbeagjkaaGreatDoor
namespace Go.Proofs.YtbfcbicbeagjkaaGreatDoor
open Go.RowKit

end Go.Proofs.YtbfcbicbeagjkaaGreatDoor
namespace Go.Proofs.YtbfcbicbeagjkaaGreatDoor
open Go.RowKit

/-- What stays while the pieces in one are changed. -/
structure FlI (w w8 : World) (S : Nat → Prop) (g : Nat) (cs : Array Value) (lv : Value) (r : List Nat) (wr : World) : Prop where
  gx : wr.heap[g]? = some (.cells cs 35 (0, 0))
  lr : wr.ownsRow 0 140 1 lv r.length (ucs r)
  keep : Keeps (fun c => ¬ S c ∧ c ≠ g) w wr
  bel : ∀ B, B ≤ g → B ≤ w.heap.size → (∀ b, S b → B ≤ b) → Below B w wr
  ge : w8.heap.size ≤ wr.heap.size
theorem FlI.step {w w8 wr wr' : World} {S F : Nat → Prop} {g b : Nat} {cs : Array Value} {lv : Value} {r : List Nat} (h : FlI w w8 S g cs lv r wr) (hF : ∀ c, F c → S c) (hb : S b) (hg : ¬ S g) (hlv : ∀ c, lv.ownBlock = some c → ¬ F c ∧ c ≠ b) (hk : Keeps (fun c => ¬ F c ∧ c ≠ b) wr wr') (hB : ∀ B, B ≤ b → B ≤ wr.heap.size → (∀ c, F c → B ≤ c) → Below B wr wr') : FlI w w8 S g cs lv r wr' :=
  ⟨(hk.2 _ (Array.getElem?_eq_some_iff.1 h.gx).1 ⟨fun e => hg (hF g e), fun e => hg (e ▸ hb)⟩).trans h.gx, ownsRow_keep h.lr hk hlv, h.keep.trans (hk.mono fun c _ hc => ⟨fun e => hc.1 (hF c e), fun e => hc.1 (e ▸ hb)⟩),
   fun B h1 h2 h3 => (h.bel B h1 h2 h3).trans (hB B (h3 b hb) (Nat.le_trans h2 h.keep.1) fun c hc => h3 c (hF c hc)), Nat.le_trans h.ge hk.1⟩
/-- A box of a wrap, and its rows. -/
structure BxW (w1 : World) (q : Nat) (mv sv : Value) (m s : List Int) (wr : World) : Prop where
  qx : wr.heap[q]? = some (.cells #[mv, sv] 30 (0, 0))
  mr : wr.ownsRow w1.heap.size 3 1 mv m.length (ic m)
  sr : wr.ownsRow w1.heap.size 3 1 sv s.length (ic s)
theorem BxW.step {w1 wr wr' : World} {q : Nat} {mv sv : Value} {m s : List Int} (h : BxW w1 q mv sv m s wr) {P : Nat → Prop} (hk : Keeps P wr wr') (hq : w1.heap.size ≤ q) (hP : ∀ c, w1.heap.size ≤ c → c < wr.heap.size → P c) : BxW w1 q mv sv m s wr' :=
  ⟨(hk.2 _ (Array.getElem?_eq_some_iff.1 h.qx).1 (hP q hq (Array.getElem?_eq_some_iff.1 h.qx).1)).trans h.qx, ownsRow_keep h.mr hk fun c hc => hP c (h.mr.lt c hc).1 (h.mr.lt c hc).2, ownsRow_keep h.sr hk fun c hc => hP c (h.sr.lt c hc).1 (h.sr.lt c hc).2⟩
theorem BxW.wr {w1 wr : World} {q : Nat} {mv sv : Value} {m s : List Int} (h : BxW w1 q mv sv m s wr) : Wr wr (.agg #[mv, sv]) m s := ⟨_, _, rfl, Iz.of_own h.mr, Iz.of_own h.sr⟩
end Go.Proofs.YtbfcbicbeagjkaaGreatDoor
namespace Go.Proofs.YtbfcbicbeagjkaaGreatDoor
open Go.RowKit

/-- With another wrap. -/
theorem SOwn.re {S T : Nat → Prop} {w : World} {D : Sx} {a0 a1 a2 a3 a4 a5 a6 a7 : Value} {m' s' : List Int} {mv' sv' : Value} (h : SOwn w S D [a0, a1, a2, a3, a4, a5, a6, a7])
    (hm : w.ownsRow 0 3 1 mv' m'.length (ics .i64 m')) (hs : w.ownsRow 0 3 1 sv' s'.length (ics .i64 s')) (hmT : ∀ b, mv'.ownBlock = some b → T b ∧ ¬ S b) (hsT : ∀ b, sv'.ownBlock = some b → T b ∧ ¬ S b) (hST : ∀ b, S b → T b) :
    SOwn w T (reS m' s' D) [a0, a1, a2, a3, a4, a5, mv', sv'] := by
  obtain ⟨k, t, n, r, l, a, m, s⟩ := D
  obtain ⟨_, _, _, _, _, _, hcs, _⟩ := h.row
  simp only [List.cons.injEq, and_true] at hcs
  obtain ⟨rfl, rfl, rfl, rfl, rfl, rfl, rfl, rfl⟩ := hcs
  exact h.wear hm hs hmT hsT hST
/-- What stays while the pieces in one are changed, with the piece's wrap. -/
structure OpI (w : World) (S : Nat → Prop) (g : Nat) (cs : Array Value) (lv mv sv : Value) (r : List Nat) (m s : List Int) (wr : World) : Prop where
  fi : FlI w w S g cs lv r wr
  mr : wr.ownsRow 0 3 1 mv m.length (ics .i64 m)
  sr : wr.ownsRow 0 3 1 sv s.length (ics .i64 s)
theorem OpI.step {w wr wr' : World} {S F : Nat → Prop} {g b : Nat} {cs : Array Value} {lv mv sv : Value} {r : List Nat} {m s : List Int} (h : OpI w S g cs lv mv sv r m s wr) (hF : ∀ c, F c → S c) (hb : S b) (hg : ¬ S g) (hlv : ∀ c, (lv.ownBlock = some c ∨ mv.ownBlock = some c ∨ sv.ownBlock = some c) → ¬ F c ∧ c ≠ b) (hk : Keeps (fun c => ¬ F c ∧ c ≠ b) wr wr') (hB : ∀ B, B ≤ b → B ≤ wr.heap.size → (∀ c, F c → B ≤ c) → Below B wr wr') : OpI w S g cs lv mv sv r m s wr' :=
  ⟨h.fi.step hF hb hg (fun c hc => hlv c (.inl hc)) hk hB, ownsRow_keep h.mr hk fun c hc => hlv c (.inr (.inl hc)), ownsRow_keep h.sr hk fun c hc => hlv c (.inr (.inr hc))⟩
theorem OpI.below {w wr wr' : World} {S : Nat → Prop} {g : Nat} {cs : Array Value} {lv mv sv : Value} {r : List Nat} {m s : List Int} (h : OpI w S g cs lv mv sv r m s wr) (hb : Below wr.heap.size wr wr') : OpI w S g cs lv mv sv r m s wr' :=
  ⟨⟨(hb.block _ (Array.getElem?_eq_some_iff.1 h.fi.gx).1).trans h.fi.gx, ownsRow_keep h.fi.lr (Keeps.of_below (P := fun _ => True) hb) fun _ _ => trivial, h.fi.keep.trans (Keeps.of_below hb), fun B h1 h2 h3 => (h.fi.bel B h1 h2 h3).trans (hb.mono (Nat.le_trans h2 h.fi.keep.1)), Nat.le_trans h.fi.ge hb.size⟩, ownsRow_keep h.mr (Keeps.of_below (P := fun _ => True) hb) fun _ _ => trivial, ownsRow_keep h.sr (Keeps.of_below (P := fun _ => True) hb) fun _ _ => trivial⟩

end Go.Proofs.YtbfcbicbeagjkaaGreatDoor
namespace Go.Proofs.YtbfcbicbeagjkaaGreatDoor
open Go.RowKit

/-- No piece. -/
def zeroS : Sx := .mk 0 ⟨#[]⟩ false [] [] 0 [] []
def zeroU : List Value := [.int .i64 0, .string ⟨#[]⟩, .bool false, .slice none 0 0, .slice none 0 0, .int .i64 0, .slice none 0 0, .slice none 0 0]
theorem sown_zero (S : Nat → Prop) (w : World) : SOwn w S zeroS zeroU :=
  .mk (Fc := fun _ _ => False) (by decide) (fun _ h => by cases h) (World.ownsRow_nil _ _ _ _) (World.ownsRow_nil _ _ _ _) (World.ownsRow_nil _ _ _ _) (World.ownsRow_nil _ _ _ _) (fun _ h => by cases h) (fun _ h => by cases h) (fun _ h => by cases h) (fun _ h => by cases h) (fun _ _ h => h.elim) (fun _ _ _ _ h => h.elim) (fun i hi => by cases hi)
end Go.Proofs.YtbfcbicbeagjkaaGreatDoor
namespace Go.Proofs.YtbfcbicbeagjkaaGreatDoor
open Go.RowKit

/-- No piece in it is of kind 0. -/
inductive Nz : Sx → Prop
  | mk {k : Int} {t : ByteArray} {n : Bool} {r : List Nat} {l : List Sx} {a : Int} {m s : List Int} (hk : ∀ (i : Nat) (h : i < l.length), (l[i]'h).k ≠ 0) (hn : ∀ (i : Nat) (h : i < l.length), Nz (l[i]'h)) : Nz (.mk k t n r l a m s)
theorem Nz.open' {D : Sx} (h : Nz D) : (∀ (i : Nat) (h : i < D.l.length), (D.l[i]'h).k ≠ 0) ∧ ∀ (i : Nat) (h : i < D.l.length), Nz (D.l[i]'h) := by
  cases h with
  | mk hk hn => exact ⟨hk, hn⟩
end Go.Proofs.YtbfcbicbeagjkaaGreatDoor
namespace Go.Proofs.YtbfcbicbeagjkaaGreatDoor
open Go.RowKit

/-- The document's answer: a piece, and an error. -/
def RsR (err : Int) (E : Sx) (w : World) (e : Ending) (w' : World) : Prop := ∃ kx tx nx xo xn xc yo yn yc ax po pn pc qo qn qc, e = .returned (.tuple #[.agg #[.int .i64 kx, .string tx, .bool nx, .slice xo xn xc, .slice yo yn yc, .int .i64 ax, .slice po pn pc, .slice qo qn qc], .int .i64 err]) ∧ SLay w' E [.int .i64 kx, .string tx, .bool nx, .slice xo xn xc, .slice yo yn yc, .int .i64 ax, .slice po pn pc, .slice qo qn qc] ∧ Below w.heap.size w w'
theorem slay_zero (w : World) : SLay w zeroS [.int .i64 0, .string ⟨#[]⟩, .bool false, .slice none 0 0, .slice none 0 0, .int .i64 0, .slice none 0 0, .slice none 0 0] := (sown_zero (fun _ => True) w).lay
theorem SLay.re {w : World} {D : Sx} {a0 a1 a2 a3 a4 a5 a6 a7 mv sv : Value} {m s : List Int} (h : SLay w D [a0, a1, a2, a3, a4, a5, a6, a7]) (hm : Iz w mv m) (hs : Iz w sv s) : SLay w (reS m s D) [a0, a1, a2, a3, a4, a5, mv, sv] := by
  cases h with
  | mk ht hlim hr hrow _ _ hin => exact .mk ht hlim hr hrow hm hs hin
theorem re_light {f : Nat} {D : Sx} {m s : List Int} (h : lightS f D = true) (hm : m.length ≤ 600) (hs : s.length ≤ 600) : lightS f (reS m s D) = true := by
  cases f with
  | zero => cases h
  | succ f =>
    obtain ⟨k, t, n, r, l, a, dm, ds⟩ := D
    obtain ⟨h1, _, _, h4⟩ := lightS_mem h
    exact lightS_yes h1 hm hs h4
end Go.Proofs.YtbfcbicbeagjkaaGreatDoor
namespace Go.Proofs.YtbfcbicbeagjkaaGreatDoor
open Go.RowKit

theorem SLayP.re {P : Nat → Prop} {w : World} {D : Sx} {a0 a1 a2 a3 a4 a5 a6 a7 mv sv : Value} {m s : List Int} (h : SLayP P w D [a0, a1, a2, a3, a4, a5, a6, a7]) (hm : Iz w mv m) (pm : ∀ b, mv.ownBlock = some b → P b) (hs : Iz w sv s) (ps : ∀ b, sv.ownBlock = some b → P b) : SLayP P w (reS m s D) [a0, a1, a2, a3, a4, a5, mv, sv] := by
  cases h with
  | mk ht hlim hr hrp hrow hap _ _ _ _ hin => exact .mk ht hlim hr hrp hrow hap hm (fun b _ h => pm b h) hs (fun b _ h => ps b h) hin
def put2w (W : World) (g : Nat) (b6 b7 : Value) : World := (W.setCell ⟨g, 6, none⟩ b6).setCell ⟨g, 7, none⟩ b7
theorem put2w_row {W : World} {g : Nat} {a0 a1 a2 a3 a4 a5 a6 a7 : Value} {e : TypeId} (h : W.heap[g]? = some (.cells #[a0, a1, a2, a3, a4, a5, a6, a7] e (0, 0))) (b6 b7 : Value) : (put2w W g b6 b7).heap[g]? = some (.cells #[a0, a1, a2, a3, a4, a5, b6, b7] e (0, 0)) := setS7 (setS6 h b6) b7
theorem put2w_keep (P : Nat → Prop) (W : World) (g : Nat) (hg : ¬ P g) (b6 b7 : Value) : Keeps P W (put2w W g b6 b7) := ((Keeps.refl P W).set (p := ⟨g, 6, none⟩) hg _).set (p := ⟨g, 7, none⟩) hg _
theorem put2w_below {B : Nat} {w W : World} (h : Below B w W) {g : Nat} (hg : B ≤ g) (b6 b7 : Value) : Below B w (put2w W g b6 b7) := (h.setCell (p := ⟨g, 6, none⟩) hg _).setCell (p := ⟨g, 7, none⟩) hg _

end Go.Proofs.YtbfcbicbeagjkaaGreatDoor
namespace Go.Proofs.YtbfcbicbeagjkaaGreatDoor
open Go.RowKit

end Go.Proofs.YtbfcbicbeagjkaaGreatDoor
