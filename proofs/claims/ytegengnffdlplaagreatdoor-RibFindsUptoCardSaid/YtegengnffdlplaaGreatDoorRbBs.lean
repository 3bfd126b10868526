/- law11's built: two that are alike. -/
import Derived.Test.YtegengnffdlplaaGreatDoorRbRPut
import Derived.Test.YtegengnffdlplaaGreatDoorRbOpE
namespace Go.Proofs.YtegengnffdlplaaGreatDoor
open Go.RowKit

theorem RrW.mono {w : World} {X Y : Nat → Prop} {m R : Nat} {es : List En} (h : RrW w X m R es) (hq : ∀ b, b < w.heap.size → X b → Y b) (hm : ¬ Y m) : RrW w Y m R es := by
  obtain ⟨lv, us, h1, h2, h3, h4⟩ := h.ex
  exact ⟨⟨lv, us, h1, h2, EnRow.mono h3 fun b hb hp => ⟨hq b hb hp.1, hp.2⟩, fun b hb => hq b (h2.lt b hb).2 (h4 b hb)⟩, hm⟩
theorem RrW.lt {w : World} {X : Nat → Prop} {m R : Nat} {es : List En} (h : RrW w X m R es) : m < w.heap.size := by
  obtain ⟨lv, us, h1, _⟩ := h.ex
  exact (Array.getElem?_eq_some_iff.1 h1).1
/-- Ribs of both, alike in what stands in them. -/
structure Bt (w0 W : World) (g m R Rm : Nat) (tk : Ek → Option Int) (es : List En) : Prop where
  ex : ∃ ob S, RbW W g ob R 0 tk ∧ RrW W S m Rm es ∧ (∀ b, ob = some b → w0.heap.size ≤ b) ∧ ob ≠ some m ∧ ∀ b, S b → w0.heap.size ≤ b ∧ b ≠ g ∧ ob ≠ some b ∧ b < W.heap.size
  ne : g ≠ m
  en : EnM es tk
  bel : Below w0.heap.size w0 W
  lg : w0.heap.size ≤ g
  lm : w0.heap.size ≤ m
theorem Bt.below {w0 W W' : World} {g m R Rm : Nat} {tk : Ek → Option Int} {es : List En} (h : Bt w0 W g m R Rm tk es) (hb : Below W.heap.size W W') : Bt w0 W' g m R Rm tk es := by
  obtain ⟨ob, S, h1, h2, h3, h4, h5⟩ := h.ex
  exact ⟨⟨ob, S, h1.below hb, h2.below hb, h3, h4, fun b hs => by obtain ⟨a, b2, c, d⟩ := h5 b hs; exact ⟨a, b2, c, Nat.lt_of_lt_of_le d hb.size⟩⟩, h.ne, h.en, h.bel.trans (hb.mono h.bel.size), h.lg, h.lm⟩
theorem Bt.drew {w0 W : World} {g m R Rm : Nat} {tk : Ek → Option Int} {es : List En} (h : Bt w0 W g m R Rm tk es) : Bt w0 W.drew g m R Rm tk es := h.below (Below.refl _ _).drew
theorem Bt.box {w0 W : World} {g m R Rm : Nat} {tk : Ek → Option Int} {es : List En} (h : Bt w0 W g m R Rm tk es) : ∃ lv, W.heap[m]? = some (.cells #[.int .i64 (Rm : Nat), lv] 50 (0, 0)) := by
  obtain ⟨ob, S, h1, h2, h3, h4, h5⟩ := h.ex
  obtain ⟨lv, us, hb, _⟩ := h2.ex
  exact ⟨lv, hb⟩
theorem Bt.crib {w0 W : World} {g m R Rm : Nat} {tk : Ek → Option Int} {es : List En} (h : Bt w0 W g m R Rm tk es) (hR : R ≤ 1000000) : Calls Tryz.prog 19 #[.pointer (some ⟨g, 0, none⟩)] W fun e w' => e = .returned (.int .i64 ((R + 1 : Nat) : Int)) ∧ Bt w0 w' g m (R + 1) Rm tk es := by
  obtain ⟨ob, S, h1, h2, h3, h4, h5⟩ := h.ex
  exact (rrib_any W g ob R 0 tk h1 hR).mono fun e w' ⟨k1, k2, k3⟩ => ⟨k1, ⟨ob, S, k2, h2.keep k3.kee ⟨h.ne.symm, h4⟩ fun b hb => ⟨(h5 b hb).2.1, (h5 b hb).2.2.1⟩, h3, h4, fun b hs => by obtain ⟨a, b2, c, d⟩ := h5 b hs; exact ⟨a, b2, c, Nat.lt_of_lt_of_le d k3.size⟩⟩, h.ne, h.en, h.bel.trans (k3.bel _ h.lg h3 h.bel.size), h.lg, h.lm⟩
theorem Bt.count {w0 W : World} {g m R Rm : Nat} {tk : Ek → Option Int} {es : List En} (h : Bt w0 W g m R Rm tk es) {u : Int} (hu : u = ((Rm + 1 : Nat) : Int)) : Bt w0 (W.setCell ⟨m, 0, none⟩ (.int .i64 u)) g m R (Rm + 1) tk es := by
  subst hu
  obtain ⟨ob, S, h1, h2, h3, h4, h5⟩ := h.ex
  obtain ⟨lv, us, k1, k2, k3, k4⟩ := h2.ex
  have hk : Keeps (fun b => b ≠ m) W (W.setCell ⟨m, 0, none⟩ (.int .i64 ((Rm + 1 : Nat) : Int))) := (Keeps.refl _ W).set (p := ⟨m, 0, none⟩) (fun hp => hp rfl) _
  exact ⟨⟨ob, S, h1.keep hk h.ne (fun b hb e => h4 (by rw [hb, e])), ⟨⟨lv, us, (rowSet k1 0 _).trans (by simp), ownsRow_keep k2 hk (fun b hb => by have := (k2.lt b hb).1; omega), EnRow.move ((Keeps.refl _ W).set (p := ⟨m, 0, none⟩) (fun hp => h2.far hp.1) _) k3, k4⟩, h2.far⟩, h3, h4, fun b hs => by obtain ⟨a, b2, c, d⟩ := h5 b hs; exact ⟨a, b2, c, by simpa using d⟩⟩, h.ne, h.en, h.bel.setCell (p := ⟨m, 0, none⟩) h.lm _, h.lg, h.lm⟩
/-- In the midst of both Puts, in whichever order. -/
structure Bs (w0 w5 : World) (g m n : Nat) (ob : Option Nat) (S : Nat → Prop) (rb : Int) (D : Sx) (lb : Int) (tk : Ek → Option Int) (es : List En) (f8 f16 f5 : Bool) (v5 : Value) (W : World) : Prop where
  ex : ∃ ob' lo hi, RbW W g ob' n 0 (if f8 = true then (if mayP n rb D lb then (if (tk (rb, D.t, wrt D.m)).getD 0 = 0 then putE tk (rb, D.t, wrt D.m) lb else tk) else tk) else tk) ∧ RrW W (fun b => S b ∨ (lo ≤ b ∧ b < hi)) m n (if f16 = true then (if mayP n rb D lb then (if atL es rb D.t D.m = 0 then es ++ [⟨rb, D.t, D.m, lb⟩] else es) else es) else es) ∧ (∀ b, ob' = some b → ob = some b ∨ w5.heap.size ≤ b) ∧ (∀ b, ob' = some b → ¬ (lo ≤ b ∧ b < hi)) ∧ w5.heap.size ≤ lo ∧ hi ≤ W.heap.size ∧ (f5 = true → ∃ us, v5 = .agg us.toArray ∧ SLayP (fun b => w5.heap.size ≤ b ∧ ob' ≠ some b ∧ ¬ (lo ≤ b ∧ b < hi)) W D us) ∧ (f16 = false → hi ≤ lo)
  kee : Keeps (fun b => b ≠ g ∧ ob ≠ some b ∧ b ≠ m ∧ ¬ S b) w5 W
  bel : Below w0.heap.size w5 W
  fix : w0.heap.size ≤ g ∧ g < w5.heap.size ∧ w0.heap.size ≤ m ∧ m < w5.heap.size ∧ g ≠ m ∧ ob ≠ some m ∧ (∀ b, ob = some b → w0.heap.size ≤ b ∧ b < w5.heap.size) ∧ w0.heap.size ≤ w5.heap.size ∧ ∀ b, S b → w0.heap.size ≤ b ∧ b ≠ g ∧ ob ≠ some b ∧ b ≠ m ∧ b < w5.heap.size
theorem Bs.below {w0 w5 W : World} {g m n : Nat} {ob : Option Nat} {S : Nat → Prop} {rb : Int} {D : Sx} {lb : Int} {tk : Ek → Option Int} {es : List En} {f8 f16 f5 : Bool} {v5 : Value} {W' : World} (h : Bs w0 w5 g m n ob S rb D lb tk es f8 f16 f5 v5 W) (hb : Below W.heap.size W W') : Bs w0 w5 g m n ob S rb D lb tk es f8 f16 f5 v5 W' := by
  obtain ⟨ob', lo, hi, h1, h2, h3, h4, h5, h6, h7, h8⟩ := h.ex
  refine ⟨⟨ob', lo, hi, h1.below hb, h2.below hb, h3, h4, h5, Nat.le_trans h6 hb.size, fun hf => ?_, h8⟩, ⟨Nat.le_trans h.kee.1 hb.size, fun b hl hp => (hb.block b (Nat.lt_of_lt_of_le hl h.kee.1)).trans (h.kee.2 b hl hp)⟩, h.bel.trans (hb.mono (Nat.le_trans h.fix.2.2.2.2.2.2.2.1 h.kee.1)), h.fix⟩
  obtain ⟨us, e, hl⟩ := h7 hf
  exact ⟨us, e, hl.move (Keeps.of_below hb)⟩
theorem Bs.drew {w0 w5 W : World} {g m n : Nat} {ob : Option Nat} {S : Nat → Prop} {rb : Int} {D : Sx} {lb : Int} {tk : Ek → Option Int} {es : List En} {f8 f16 f5 : Bool} {v5 : Value} (h : Bs w0 w5 g m n ob S rb D lb tk es f8 f16 f5 v5 W) : Bs w0 w5 g m n ob S rb D lb tk es f8 f16 f5 v5 W.drew := h.below (Below.refl _ _).drew
theorem Bs.box {w0 w5 W : World} {g m n : Nat} {ob : Option Nat} {S : Nat → Prop} {rb : Int} {D : Sx} {lb : Int} {tk : Ek → Option Int} {es : List En} {f8 f16 f5 : Bool} {v5 : Value} {xb : Nat} {o : Obj} (h : Bs w0 w5 g m n ob S rb D lb tk es f8 f16 f5 v5 W) (hx : xb ≠ g ∧ ob ≠ some xb ∧ xb ≠ m ∧ ¬ S xb) (ho : w5.heap[xb]? = some o) : W.heap[xb]? = some o := (h.kee.2 xb (Array.getElem?_eq_some_iff.1 ho).1 hx).trans ho
theorem Bs.bel' {w0 w5 W : World} {g m n : Nat} {ob : Option Nat} {S : Nat → Prop} {rb : Int} {D : Sx} {lb : Int} {tk : Ek → Option Int} {es : List En} {f8 f16 f5 : Bool} {v5 : Value} (h : Bs w0 w5 g m n ob S rb D lb tk es f8 f16 f5 v5 W) : Below w0.heap.size w5 W := h.bel
theorem Bs.piece {w0 w5 W : World} {g m n : Nat} {ob : Option Nat} {S : Nat → Prop} {rb : Int} {D : Sx} {lb : Int} {tk : Ek → Option Int} {es : List En} {f8 f16 f5 : Bool} {v5 : Value} (h : Bs w0 w5 g m n ob S rb D lb tk es f8 f16 true v5 W) : ∃ us, v5 = .agg us.toArray ∧ SLay W D us := by
  obtain ⟨ob', lo, hi, h1, h2, h3, h4, h5, h6, h7, h8⟩ := h.ex
  obtain ⟨us, e, hl⟩ := h7 rfl
  exact ⟨us, e, hl.lay⟩
theorem Bs.own {w0 w5 W : World} {g m n : Nat} {ob : Option Nat} {S : Nat → Prop} {rb : Int} {D : Sx} {lb : Int} {tk : Ek → Option Int} {es : List En} {f8 f16 f5 : Bool} {v5 : Value} (h : Bs w0 w5 g m n ob S rb D lb tk es f8 f16 false v5 W) {us : List Value} (hsm : SmS 1100000 D) (hd : SLay W D us) :
    Calls Tryz.prog 10 #[.agg us.toArray] W fun e w' => ∃ v, e = .returned v ∧ Bs w0 w5 g m n ob S rb D lb tk es f8 f16 true v w' := by
  refine (own_sxK D hsm.owk us W hd).mono fun e w' ⟨vs, he, hl, hb⟩ => ⟨_, he, ?_⟩
  obtain ⟨ob', lo, hi, h1, h2, h3, h4, h5, h6, h7, h8⟩ := (h.below hb).ex
  have h0 := h.below hb
  obtain ⟨oc, lo2, hi2, k1, k2, k3, k4, k5, k6, k7, k8⟩ := h.ex
  refine ⟨⟨oc, lo2, hi2, k1.below hb, k2.below hb, k3, k4, k5, Nat.le_trans k6 hb.size, fun _ => ⟨vs, rfl, hl.mono fun b _ hp => ⟨Nat.le_trans h.kee.1 hp, fun e => by have := k1.mlt e; omega, fun hx => by omega⟩⟩, k8⟩, h0.kee, h0.bel, h.fix⟩
theorem Bs.cput {w0 w5 W : World} {g m n : Nat} {ob : Option Nat} {S : Nat → Prop} {rb : Int} {D : Sx} {lb : Int} {tk : Ek → Option Int} {es : List En} {f8 f16 f5 : Bool} {v5 : Value} (h : Bs w0 w5 g m n ob S rb D lb tk es false f16 true v5 W) {us : List Value} (hv : v5 = .agg us.toArray) (hpc : SLay W D us) (hsm : SmS 1100000 D) (hml : D.m.length ≤ 1000000) (ht : Tabs w0) (hb0 : Below w0.heap.size w0 w5) :
    Calls Tryz.prog 21 #[.pointer (some ⟨g, 0, none⟩), .int .i64 rb, .agg us.toArray, .int .i64 lb] W fun e w' => e = .returned (.int .i64 (if mayP n rb D lb then (if (tk (rb, D.t, wrt D.m)).getD 0 = 0 then 0 else 2) else 1)) ∧ Bs w0 w5 g m n ob S rb D lb tk es true f16 true v5 w' := by
  obtain ⟨oc, lo, hi, k1, k2, k3, k4, k5, k6, k7, k8⟩ := h.ex
  obtain ⟨x1, x2, x3, x4, x5, x6, x7, x8, x9⟩ := h.fix
  rw [if_neg (by decide)] at k1
  refine (rput_any W g oc n 0 tk k1 rb D us lb hpc hsm hml (ht.below (hb0.trans h.bel) (Nat.le_refl _))).mono fun e w' ⟨o2, e1, e2, e3, e4⟩ => ⟨e1, ?_⟩
  have hsz := h.kee.1
  have hom : oc ≠ some m := fun e => by rcases k3 m e with h | h; exact x6 h; omega
  have hob : ∀ b, oc = some b → w0.heap.size ≤ b := fun b hb => by rcases k3 b hb with h | h; exact (x7 b h).1; omega
  have hos : ∀ b, S b → oc ≠ some b := fun b hb e => by rcases k3 b e with h | h; exact (x9 b hb).2.2.1 h; (have := (x9 b hb).2.2.2.2; omega)
  refine ⟨⟨o2, lo, hi, by rw [if_pos rfl]; exact e2, k2.keep e3.kee ⟨x5.symm, hom⟩ (fun b hb => by rcases hb with hb | hb; exact ⟨(x9 b hb).2.1, hos b hb⟩; exact ⟨by omega, fun e => k4 b e hb⟩), fun b hb => by rcases e4 b hb with h | h; exact k3 b h; exact .inr (by omega), fun b hb => by rcases e4 b hb with h | h; exact k4 b h; (intro hx; omega), k5, Nat.le_trans k6 e3.size, fun _ => ?_, k8⟩, ⟨Nat.le_trans hsz e3.size, fun b hb hp => (e3.kee.2 b (Nat.lt_of_lt_of_le hb hsz) ⟨hp.1, fun e => by rcases k3 b e with h | h; exact hp.2.1 h; omega⟩).trans (h.kee.2 b hb hp)⟩, h.bel.trans (e3.bel _ x1 hob (Nat.le_trans x8 hsz)), h.fix⟩
  obtain ⟨us2, hv2, hl⟩ := k7 rfl
  exact ⟨us2, hv2, ((hl.mono (Q := fun b => (w5.heap.size ≤ b ∧ oc ≠ some b ∧ ¬ (lo ≤ b ∧ b < hi)) ∧ o2 ≠ some b) fun b hb hp => ⟨hp, fun e => by rcases e4 b e with h | h; exact hp.2.1 h; omega⟩).move (e3.kee.mono fun b _ hp => ⟨by omega, hp.1.2.1⟩)).mono fun b _ hp => ⟨hp.1.1, hp.2, hp.1.2.2⟩⟩
theorem Bs.rput {w0 w5 W : World} {g m n : Nat} {ob : Option Nat} {S : Nat → Prop} {rb : Int} {D : Sx} {lb : Int} {tk : Ek → Option Int} {es : List En} {f8 f16 f5 : Bool} {v5 : Value} (h : Bs w0 w5 g m n ob S rb D lb tk es f8 false f5 v5 W) {us : List Value} (hsm : SmS 1100000 D) (hml : D.m.length ≤ 1000000) (hpc : SLay W D us) (hl : es.length ≤ 1000) (hpos : ∀ x ∈ es, 1 ≤ x.lb ∧ Rg x.ms) :
    Calls Tryz.prog 22 #[.pointer (some ⟨m, 0, none⟩), .int .i64 rb, .agg us.toArray, .int .i64 lb] W fun e w' => e = .returned (.int .i64 (if mayP n rb D lb then (if atL es rb D.t D.m = 0 then 0 else 2) else 1)) ∧ Bs w0 w5 g m n ob S rb D lb tk es f8 true f5 v5 w' := by
  obtain ⟨oc, lo, hi, k1, k2, k3, k4, k5, k6, k7, k8⟩ := h.ex
  obtain ⟨x1, x2, x3, x4, x5, x6, x7, x8, x9⟩ := h.fix
  rw [if_neg (by decide)] at k2
  have hlh := k8 rfl
  have hsz := h.kee.1
  have hr : RrW W (fun b => S b ∨ W.heap.size ≤ b) m n es := k2.mono (fun b _ hb => by rcases hb with hb | hb; exact .inl hb; omega) (fun hm => by rcases hm with hm | hm; exact (x9 m hm).2.2.2.1 rfl; omega)
  refine (rrput_any W _ m n es hr (fun b hb => .inr hb) rb D us lb hpc hsm hml hl hpos).mono fun e w' ⟨e1, e2, e3, e4⟩ => ⟨e1, ?_⟩
  have hs2 := e3.1
  have hom : oc ≠ some m := fun e => by rcases k3 m e with h | h; exact x6 h; omega
  have hos : ∀ b, oc = some b → ¬ S b := fun b e hb => by rcases k3 b e with h | h; exact (x9 b hb).2.2.1 h; (have := (x9 b hb).2.2.2.2; omega)
  refine ⟨⟨oc, W.heap.size, w'.heap.size, k1.keep e3 ⟨x5, fun hx => by rcases hx with hx | hx; exact (x9 g hx).2.1 rfl; omega⟩ (fun b hb => ⟨fun e => hom (by rw [hb, e]), fun hx => by rcases hx with hx | hx; exact hos b hb hx; (have := k1.mlt hb; omega)⟩), by rw [if_pos rfl]; exact e2.mono (fun b hb hx => by rcases hx with hx | hx; exact .inl hx; exact .inr ⟨hx, hb⟩) (fun hx => by rcases hx with hx | hx; exact (x9 m hx).2.2.2.1 rfl; omega), k3, fun b hb hx => by have := k1.mlt hb; omega, hsz, Nat.le_refl _, fun hf => ?_, fun hf => by cases hf⟩, ⟨Nat.le_trans hsz hs2, fun b hb hp => (e3.2 b (Nat.lt_of_lt_of_le hb hsz) ⟨hp.2.2.1, fun hx => by rcases hx with hx | hx; exact hp.2.2.2 hx; omega⟩).trans (h.kee.2 b hb hp)⟩, h.bel.trans (e4 _ x3 (Nat.le_trans x8 hsz)), h.fix⟩
  obtain ⟨us2, hv2, hl2⟩ := k7 hf
  exact ⟨us2, hv2, ((hl2.mono (Q := fun b => (w5.heap.size ≤ b ∧ oc ≠ some b ∧ ¬ (lo ≤ b ∧ b < hi)) ∧ b < W.heap.size) fun b hb hp => ⟨hp, hb⟩).move (e3.mono fun b _ hp => ⟨by omega, fun hx => by rcases hx with hx | hx; (have := (x9 b hx).2.2.2.2; omega); omega⟩)).mono fun b _ hp => ⟨hp.1.1, hp.1.2.1, fun hx => by omega⟩⟩
theorem Bs.start {w0 w5 : World} {g m n : Nat} {ob : Option Nat} {S : Nat → Prop} {rb : Int} {D : Sx} {lb : Int} {tk : Ek → Option Int} {es : List En} {v5 : Value} (h1 : RbW w5 g ob n 0 tk) (h2 : RrW w5 S m n es) (hf : w0.heap.size ≤ g ∧ g < w5.heap.size ∧ w0.heap.size ≤ m ∧ m < w5.heap.size ∧ g ≠ m ∧ ob ≠ some m ∧ (∀ b, ob = some b → w0.heap.size ≤ b ∧ b < w5.heap.size) ∧ w0.heap.size ≤ w5.heap.size ∧ ∀ b, S b → w0.heap.size ≤ b ∧ b ≠ g ∧ ob ≠ some b ∧ b ≠ m ∧ b < w5.heap.size) : Bs w0 w5 g m n ob S rb D lb tk es false false false v5 w5 :=
  ⟨⟨ob, w5.heap.size, 0, by rw [if_neg (by decide)]; exact h1, by rw [if_neg (by decide)]; exact h2.mono (fun b _ hb => .inl hb) (fun hx => by rcases hx with hx | hx; exact h2.far hx; omega), fun b hb => .inl hb, fun b _ hx => by omega, Nat.le_refl _, Nat.zero_le _, fun h => (by cases h), fun _ => Nat.zero_le _⟩, Keeps.refl _ _, Below.refl _ _, hf⟩
/-- What stands in both behind a Put. -/
theorem en_put {es : List En} {tk : Ek → Option Int} (h : EnM es tk) {n : Nat} {rb : Int} {D : Sx} {lb : Int} (hr : Rg D.m) : EnM (if mayP n rb D lb then (if atL es rb D.t D.m = 0 then es ++ [⟨rb, D.t, D.m, lb⟩] else es) else es) (if mayP n rb D lb then (if (tk (rb, D.t, wrt D.m)).getD 0 = 0 then putE tk (rb, D.t, wrt D.m) lb else tk) else tk) := by
  cases hm : mayP n rb D lb with
  | false => rw [if_neg (by decide), if_neg (by decide)]; exact h
  | true =>
    rw [if_pos rfl, if_pos rfl, h.say rb D.t D.m hr]
    have hl : 1 ≤ lb := by
      unfold mayP at hm
      simp only [Bool.and_eq_true, decide_eq_true_iff] at hm
      exact hm.2.2
    by_cases h0 : atL es rb D.t D.m = 0
    · rw [if_pos h0, if_pos h0]
      exact h.put (e := ⟨rb, D.t, D.m, lb⟩) hl hr h0
    · rw [if_neg h0, if_neg h0]; exact h
theorem Bs.done {w0 w5 W : World} {g m n : Nat} {ob : Option Nat} {S : Nat → Prop} {rb : Int} {D : Sx} {lb : Int} {tk : Ek → Option Int} {es : List En} {f8 f16 f5 : Bool} {v5 : Value} (h : Bs w0 w5 g m n ob S rb D lb tk es true true true v5 W) (he : EnM es tk) (hr : Rg D.m) (hb : Below w0.heap.size w0 w5) : Bt w0 W g m n n (if mayP n rb D lb then (if (tk (rb, D.t, wrt D.m)).getD 0 = 0 then putE tk (rb, D.t, wrt D.m) lb else tk) else tk) (if mayP n rb D lb then (if atL es rb D.t D.m = 0 then es ++ [⟨rb, D.t, D.m, lb⟩] else es) else es) := by
  obtain ⟨oc, lo, hi, k1, k2, k3, k4, k5, k6, k7, k8⟩ := h.ex
  obtain ⟨x1, x2, x3, x4, x5, x6, x7, x8, x9⟩ := h.fix
  rw [if_pos rfl] at k1 k2
  have hsz := h.kee.1
  refine ⟨⟨oc, _, k1, k2, fun b hb => ?_, fun e => ?_, fun b hb => ?_⟩, x5, en_put he hr, hb.trans h.bel, x1, x3⟩
  · rcases k3 b hb with h | h
    · exact (x7 b h).1
    · omega
  · rcases k3 m e with h | h
    · exact x6 h
    · omega
  · rcases hb with hb | hb
    · obtain ⟨a1, a2, a3, a4, a5⟩ := x9 b hb
      exact ⟨a1, a2, fun e => by rcases k3 b e with h | h; exact a3 h; omega, by omega⟩
    · exact ⟨by omega, by omega, fun e => k4 b e hb, by omega⟩
end Go.Proofs.YtegengnffdlplaaGreatDoor
