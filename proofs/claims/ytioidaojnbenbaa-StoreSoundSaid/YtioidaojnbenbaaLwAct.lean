/- law06's act: each call answers alike on both. -/
import Derived.Test.YtioidaojnbenbaaTwoX
import Derived.Test.YtioidaojnbenbaaStCollect
import Derived.Test.YtioidaojnbenbaaRsCol
import Derived.Test.YtioidaojnbenbaaLwSame
import Derived.Test.YtioidaojnbenbaaRsSym
import Derived.Test.YtioidaojnbenbaaRsWrp
import Derived.Laws.StructEq
namespace Go.Proofs.Ytioidaojnbenbaa
open Go.RowKit

theorem row9 {W : World} {g : Nat} {a0 a1 a2 a3 a4 a5 a6 a7 a8 : Value} {e : TypeId} (h : W.heap[g]? = some (.cells #[a0, a1, a2, a3, a4, a5, a6, a7, a8] e (0, 0))) : W.cell? ⟨g, 0, none⟩ = some a0 ∧ W.cell? ⟨g, 1, none⟩ = some a1 ∧ W.cell? ⟨g, 2, none⟩ = some a2 ∧ W.cell? ⟨g, 3, none⟩ = some a3 ∧ W.cell? ⟨g, 4, none⟩ = some a4 ∧ W.cell? ⟨g, 5, none⟩ = some a5 ∧ W.cell? ⟨g, 6, none⟩ = some a6 ∧ W.cell? ⟨g, 7, none⟩ = some a7 ∧ W.cell? ⟨g, 8, none⟩ = some a8 :=
  ⟨cell_heap h 0, cell_heap h 1, cell_heap h 2, cell_heap h 3, cell_heap h 4, cell_heap h 5, cell_heap h 6, cell_heap h 7, cell_heap h 8⟩
theorem kadd_old {κ : Nat → Option Obj} {n b : Nat} {o o' : Obj} (h : κ b = some o) (hb : b ≠ n) : kadd κ n o' b = some o := by rw [kadd_ne hb]; exact h


set_option maxRecDepth 100000 in
set_option maxHeartbeats 8000000 in
theorem act3_any (w0 w : World) (gs gm : Nat) (s : St) (n : Nat) (κ : Nat → Option Obj) (d k i : Int) (sv : Value) (l : List (Int × Int)) (v x : Int × Int) (t : ByteArray) (h : TwoX w0 w gs gm s s κ) (hg : Gd s n) (hn : n < 1000) (hr : RowV w0 sv l.length 2 (vcs l)) (hl : l.length ≤ 100) (ht : t.size ≤ 140737488355328) (hd : d = 3) :
    Calls Try.prog 9 #[.pointer (some ⟨gs, 0, none⟩), .pointer (some ⟨gm, 0, none⟩), .agg #[.int .i64 d, .int .i64 k, .int .i64 i, sv, .int .i64 v.1, .int .i64 v.2, .int .i64 x.1, .int .i64 x.2, .string t]] w fun e w' => e = .returned (.bool true) ∧ ∃ s', TwoX w0 w' gs gm s' s' κ ∧ Gd s' (n + 1) := by
  subst hd
  obtain ⟨so, sc, rfl⟩ := rowv_slice hr
  obtain ⟨v0, v1⟩ := v
  obtain ⟨x0, x1⟩ := x
  simp only
  have HG := Lib.hid hg
  have HR := Lib.hid hr
  have HLT := Lib.hid (And.intro hn (And.intro hl ht))
  have HSUB : Hid (∀ b o, κ b = some o → b ≠ w.heap.size) := Lib.hid fun b o hk e => h.new hk (by omega)
  have HA := Lib.hid (h.alloc (.cells #[.int .i64 3, .int .i64 k, .int .i64 i, .slice so l.length sc, .int .i64 v0, .int .i64 v1, .int .i64 x0, .int .i64 x1, .string t] 37))
  have HK0 : Hid (kadd κ w.heap.size (.cells #[.int .i64 3, .int .i64 k, .int .i64 i, .slice so l.length sc, .int .i64 v0, .int .i64 v1, .int .i64 x0, .int .i64 x1, .string t] 37) w.heap.size = some (.cells #[.int .i64 3, .int .i64 k, .int .i64 i, .slice so l.length sc, .int .i64 v0, .int .i64 v1, .int .i64 x0, .int .i64 x1, .string t] 37)) := Lib.hid kadd_self
  clear h hg hr hl ht hn
  obtain ⟨r, hrr⟩ : ∃ r, r = s.get (v0, v1) i := ⟨_, rfl⟩
  have HRR := Lib.hid hrr
  clear hrr
  obtain ⟨⟨r0, r1⟩, r2⟩ := r
  go_enter Try.func9, Try.ntmps9
  go_upto_region 1 with fail
  generalize w.alloc (.cells #[.int .i64 3, .int .i64 k, .int .i64 i, .slice so l.length sc, .int .i64 v0, .int .i64 v1, .int .i64 x0, .int .i64 x1, .string t] 37) = w1 at *
  generalize hab : w.heap.size = ab at *
  clear hab
  obtain ⟨a0, a1, a2, a3, a4, a5, a6, a7, a8⟩ := row9 (HA.out.at HK0.out)
  obtain ⟨R, hst, hlo, hkr, hgo⟩ := HA.out.sstep
  have HGO := Lib.hid hgo
  have hcc := stget_any gs R s (v0, v1) i w1 hst
  simp only [vV] at hcc
  rw [← HRR.out] at hcc
  have HCC := Lib.hid hcc
  clear hcc hst hlo hkr hgo
  go_wp2_with fail
  refine HCC.out.mono ?_
  rintro e w2 ⟨rfl, hp2⟩
  have HA2 := Lib.hid (HA.out.below hp2)
  clear hp2 HGO HCC a0 a1 a2 a3 a4 a5 a6 a7 a8 HA
  have HA3 := Lib.hid (HA2.out.alloc (.cells #[.int .i64 r0, .int .i64 r1] 35))
  have HS1 : Hid (ab ≠ w2.heap.size) := Lib.hid fun e => HA2.out.new HK0.out (by omega)
  go_upto_region 10 with fail
  generalize w2.alloc (.cells #[.int .i64 r0, .int .i64 r1] 35) = w3 at *
  have HBE : Hid (w2.heap.size ≤ w2.heap.size) := Lib.hid (Nat.le_refl _)
  generalize hb1e : w2.heap.size = b1 at HBE HS1 HA3 ⊢
  have HBE : Hid (w2.heap.size ≤ b1) := Lib.hid (by omega)
  clear hb1e
  have HK1 := Lib.hid (kadd_old (n := b1) (o' := .cells #[.int .i64 r0, .int .i64 r1] 35) HK0.out HS1.out)
  have HKB1 : Hid (kadd (kadd κ ab (.cells #[.int .i64 3, .int .i64 k, .int .i64 i, .slice so l.length sc, .int .i64 v0, .int .i64 v1, .int .i64 x0, .int .i64 x1, .string t] 37)) b1 (.cells #[.int .i64 r0, .int .i64 r1] 35) b1 = some (.cells #[.int .i64 r0, .int .i64 r1] 35)) := Lib.hid kadd_self
  obtain ⟨a0, a1, a2, a3, a4, a5, a6, a7, a8⟩ := row9 (HA3.out.at HK1.out)
  obtain ⟨Q, hst, hlo, hkr, hgo⟩ := HA3.out.rstep
  have HGO := Lib.hid hgo
  have hcc := rget_any gm Q s (v0, v1) i w3 hst HG.out.kd
  rw [← HRR.out] at hcc
  have HCC := Lib.hid hcc
  clear hcc hst hlo hkr hgo
  go_wp2_with fail
  refine HCC.out.mono ?_
  rintro e w4 ⟨rfl, hp4⟩
  have HA4 := Lib.hid (HA3.out.below hp4)
  clear hp4 HGO HCC a0 a1 a2 a3 a4 a5 a6 a7 a8 HA3
  have HA5 := Lib.hid (HA4.out.alloc (.cells #[.int .i64 r0, .int .i64 r1] 35))
  have HS2 : Hid (b1 ≠ w4.heap.size) := Lib.hid fun e => HA4.out.new HKB1.out (by omega)
  have HS3 : Hid (ab ≠ w4.heap.size) := Lib.hid fun e => HA4.out.new HK1.out (by omega)
  have HSUB4 : Hid (∀ b o, κ b = some o → kadd κ ab (.cells #[.int .i64 3, .int .i64 k, .int .i64 i, .slice so l.length sc, .int .i64 v0, .int .i64 v1, .int .i64 x0, .int .i64 x1, .string t] 37) b = some o ∧ b ≠ b1 ∧ b ≠ w4.heap.size) := Lib.hid fun b o hk => by
    have h1 := kadd_old (n := ab) (o' := .cells #[.int .i64 3, .int .i64 k, .int .i64 i, .slice so l.length sc, .int .i64 v0, .int .i64 v1, .int .i64 x0, .int .i64 x1, .string t] 37) hk (HSUB.out b o hk)
    have h2 : b ≠ b1 := fun e => HA2.out.new h1 (by rw [e]; exact HBE.out)
    exact ⟨h1, h2, fun e => HA4.out.new (kadd_old (n := b1) (o' := .cells #[.int .i64 r0, .int .i64 r1] 35) h1 h2) (by omega)⟩
  go_upto_region 11 with fail
  generalize w4.alloc (.cells #[.int .i64 r0, .int .i64 r1] 35) = w5 at *
  have p := row2 (HA5.out.at (kadd_old (n := w4.heap.size) (o' := .cells #[.int .i64 r0, .int .i64 r1] 35) HKB1.out HS2.out))
  have q := row2 (HA5.out.at (b := w4.heap.size) kadd_self)
  obtain ⟨p0, p1, _⟩ := p
  obtain ⟨q0, q1, _⟩ := q
  go_wp2_with fail
  go_ret
  exact ⟨rfl, _, (HA5.out.sub fun b o hk => kadd_old (kadd_old (HSUB4.out b o hk).1 (HSUB4.out b o hk).2.1) (HSUB4.out b o hk).2.2), HG.out.more (by omega)⟩


set_option maxRecDepth 100000 in
set_option maxHeartbeats 8000000 in
theorem act6_any (w0 w : World) (gs gm : Nat) (s : St) (n : Nat) (κ : Nat → Option Obj) (d k i : Int) (sv : Value) (l : List (Int × Int)) (v x : Int × Int) (t : ByteArray) (h : TwoX w0 w gs gm s s κ) (hg : Gd s n) (hn : n < 1000) (hr : RowV w0 sv l.length 2 (vcs l)) (hl : l.length ≤ 100) (ht : t.size ≤ 140737488355328) (hd : d = 6) :
    Calls Try.prog 9 #[.pointer (some ⟨gs, 0, none⟩), .pointer (some ⟨gm, 0, none⟩), .agg #[.int .i64 d, .int .i64 k, .int .i64 i, sv, .int .i64 v.1, .int .i64 v.2, .int .i64 x.1, .int .i64 x.2, .string t]] w fun e w' => e = .returned (.bool true) ∧ ∃ s', TwoX w0 w' gs gm s' s' κ ∧ Gd s' (n + 1) := by
  subst hd
  obtain ⟨so, sc, rfl⟩ := rowv_slice hr
  obtain ⟨v0, v1⟩ := v
  obtain ⟨x0, x1⟩ := x
  simp only
  have HG := Lib.hid hg
  have HR := Lib.hid hr
  have HLT := Lib.hid (And.intro hn (And.intro hl ht))
  have HSUB : Hid (∀ b o, κ b = some o → b ≠ w.heap.size) := Lib.hid fun b o hk e => h.new hk (by omega)
  have HA := Lib.hid (h.alloc (.cells #[.int .i64 6, .int .i64 k, .int .i64 i, .slice so l.length sc, .int .i64 v0, .int .i64 v1, .int .i64 x0, .int .i64 x1, .string t] 37))
  have HK0 : Hid (kadd κ w.heap.size (.cells #[.int .i64 6, .int .i64 k, .int .i64 i, .slice so l.length sc, .int .i64 v0, .int .i64 v1, .int .i64 x0, .int .i64 x1, .string t] 37) w.heap.size = some (.cells #[.int .i64 6, .int .i64 k, .int .i64 i, .slice so l.length sc, .int .i64 v0, .int .i64 v1, .int .i64 x0, .int .i64 x1, .string t] 37)) := Lib.hid kadd_self
  clear h hg hr hl ht hn
  obtain ⟨r, hrr⟩ : ∃ r, r = (s.wrap ⟨4, t, false, [], 0, [], []⟩).1 := ⟨_, rfl⟩
  have HRR := Lib.hid hrr
  clear hrr
  obtain ⟨⟨r0, r1⟩, r2⟩ := r
  go_enter Try.func9, Try.ntmps9
  go_upto_region 1 with fail
  generalize w.alloc (.cells #[.int .i64 6, .int .i64 k, .int .i64 i, .slice so l.length sc, .int .i64 v0, .int .i64 v1, .int .i64 x0, .int .i64 x1, .string t] 37) = w1 at *
  generalize hab : w.heap.size = ab at *
  clear hab
  obtain ⟨a0, a1, a2, a3, a4, a5, a6, a7, a8⟩ := row9 (HA.out.at HK0.out)
  obtain ⟨R, hst, hlo, hkr, hgo⟩ := HA.out.sstep
  have HGO := Lib.hid hgo
  have hcc := stwrap_any gs R s ⟨4, t, false, [], 0, [], []⟩ (.slice none 0 0) (.slice none 0 0) (.slice none 0 0) none 0 w1 hst (by have := HLT.out.2.2; show t.size ≤ _; omega) ⟨rfl, Nat.zero_le _, none, 0, rfl, Nat.le_refl _, .inl ⟨rfl, fun _ => rfl⟩⟩ ⟨rfl, Nat.zero_le _, none, 0, rfl, Nat.le_refl _, .inl ⟨rfl, fun _ => rfl⟩⟩ ⟨rfl, Nat.zero_le _, none, 0, rfl, Nat.le_refl _, .inl ⟨rfl, fun _ => rfl⟩⟩ ⟨rfl, Nat.zero_le _, none, 0, rfl, Nat.le_refl _, .inl ⟨rfl, fun _ => rfl⟩⟩ (Nat.zero_le _) (Nat.zero_le _) (Nat.zero_le _)
  simp only [vV] at hcc
  rw [← HRR.out] at hcc
  have HCC := Lib.hid hcc
  clear hcc hst hlo hkr hgo
  go_wp2_with fail
  refine HCC.out.mono ?_
  rintro e w2 ⟨rfl, hp2⟩
  have HA2 := Lib.hid (HGO.out _ _ hp2)
  clear hp2 HGO HCC a0 a1 a2 a3 a4 a5 a6 a7 a8 HA
  have HA3 := Lib.hid (HA2.out.alloc (.cells #[.int .i64 r0, .int .i64 r1] 35))
  have HS1 : Hid (ab ≠ w2.heap.size) := Lib.hid fun e => HA2.out.new HK0.out (by omega)
  go_upto_region 22 with fail
  generalize w2.alloc (.cells #[.int .i64 r0, .int .i64 r1] 35) = w3 at *
  have HBE : Hid (w2.heap.size ≤ w2.heap.size) := Lib.hid (Nat.le_refl _)
  generalize hb1e : w2.heap.size = b1 at HBE HS1 HA3 ⊢
  have HBE : Hid (w2.heap.size ≤ b1) := Lib.hid (by omega)
  clear hb1e
  have HK1 := Lib.hid (kadd_old (n := b1) (o' := .cells #[.int .i64 r0, .int .i64 r1] 35) HK0.out HS1.out)
  have HKB1 : Hid (kadd (kadd κ ab (.cells #[.int .i64 6, .int .i64 k, .int .i64 i, .slice so l.length sc, .int .i64 v0, .int .i64 v1, .int .i64 x0, .int .i64 x1, .string t] 37)) b1 (.cells #[.int .i64 r0, .int .i64 r1] 35) b1 = some (.cells #[.int .i64 r0, .int .i64 r1] 35)) := Lib.hid kadd_self
  obtain ⟨a0, a1, a2, a3, a4, a5, a6, a7, a8⟩ := row9 (HA3.out.at HK1.out)
  obtain ⟨Q, hst, hlo, hkr, hgo⟩ := HA3.out.rstep
  have HGO := Lib.hid hgo
  have hcc := rwrap_any gm Q s ⟨4, t, false, [], 0, [], []⟩ w3 hst rfl
  rw [← HRR.out] at hcc
  have HCC := Lib.hid hcc
  clear hcc hst hlo hkr hgo
  go_wp2_with fail
  refine HCC.out.mono ?_
  rintro e w4 ⟨rfl, hp4⟩
  have HA4 := Lib.hid (HGO.out _ _ hp4)
  clear hp4 HGO HCC a0 a1 a2 a3 a4 a5 a6 a7 a8 HA3
  have HA5 := Lib.hid (HA4.out.alloc (.cells #[.int .i64 r0, .int .i64 r1] 35))
  have HS2 : Hid (b1 ≠ w4.heap.size) := Lib.hid fun e => HA4.out.new HKB1.out (by omega)
  have HS3 : Hid (ab ≠ w4.heap.size) := Lib.hid fun e => HA4.out.new HK1.out (by omega)
  have HSUB4 : Hid (∀ b o, κ b = some o → kadd κ ab (.cells #[.int .i64 6, .int .i64 k, .int .i64 i, .slice so l.length sc, .int .i64 v0, .int .i64 v1, .int .i64 x0, .int .i64 x1, .string t] 37) b = some o ∧ b ≠ b1 ∧ b ≠ w4.heap.size) := Lib.hid fun b o hk => by
    have h1 := kadd_old (n := ab) (o' := .cells #[.int .i64 6, .int .i64 k, .int .i64 i, .slice so l.length sc, .int .i64 v0, .int .i64 v1, .int .i64 x0, .int .i64 x1, .string t] 37) hk (HSUB.out b o hk)
    have h2 : b ≠ b1 := fun e => HA2.out.new h1 (by rw [e]; exact HBE.out)
    exact ⟨h1, h2, fun e => HA4.out.new (kadd_old (n := b1) (o' := .cells #[.int .i64 r0, .int .i64 r1] 35) h1 h2) (by omega)⟩
  go_upto_region 23 with fail
  generalize w4.alloc (.cells #[.int .i64 r0, .int .i64 r1] 35) = w5 at *
  have p := row2 (HA5.out.at (kadd_old (n := w4.heap.size) (o' := .cells #[.int .i64 r0, .int .i64 r1] 35) HKB1.out HS2.out))
  have q := row2 (HA5.out.at (b := w4.heap.size) kadd_self)
  obtain ⟨p0, p1, _⟩ := p
  obtain ⟨q0, q1, _⟩ := q
  go_wp2_with fail
  go_ret
  exact ⟨rfl, _, (HA5.out.sub fun b o hk => kadd_old (kadd_old (HSUB4.out b o hk).1 (HSUB4.out b o hk).2.1) (HSUB4.out b o hk).2.2), HG.out.wrap ⟨⟨t, rfl⟩, HLT.out.2.2⟩⟩


set_option maxRecDepth 100000 in
set_option maxHeartbeats 8000000 in
theorem act4_any (w0 w : World) (gs gm : Nat) (s : St) (n : Nat) (κ : Nat → Option Obj) (d k i : Int) (sv : Value) (l : List (Int × Int)) (v x : Int × Int) (t : ByteArray) (h : TwoX w0 w gs gm s s κ) (hg : Gd s n) (hn : n < 1000) (hr : RowV w0 sv l.length 2 (vcs l)) (hl : l.length ≤ 100) (ht : t.size ≤ 140737488355328) (hd : d = 4) :
    Calls Try.prog 9 #[.pointer (some ⟨gs, 0, none⟩), .pointer (some ⟨gm, 0, none⟩), .agg #[.int .i64 d, .int .i64 k, .int .i64 i, sv, .int .i64 v.1, .int .i64 v.2, .int .i64 x.1, .int .i64 x.2, .string t]] w fun e w' => e = .returned (.bool true) ∧ ∃ s', TwoX w0 w' gs gm s' s' κ ∧ Gd s' (n + 1) := by
  subst hd
  obtain ⟨so, sc, rfl⟩ := rowv_slice hr
  obtain ⟨v0, v1⟩ := v
  obtain ⟨x0, x1⟩ := x
  simp only
  have HG := Lib.hid hg
  have HR := Lib.hid hr
  have HLT := Lib.hid (And.intro hn (And.intro hl ht))
  have HSUB : Hid (∀ b o, κ b = some o → b ≠ w.heap.size) := Lib.hid fun b o hk e => h.new hk (by omega)
  have HA := Lib.hid (h.alloc (.cells #[.int .i64 4, .int .i64 k, .int .i64 i, .slice so l.length sc, .int .i64 v0, .int .i64 v1, .int .i64 x0, .int .i64 x1, .string t] 37))
  have HK0 : Hid (kadd κ w.heap.size (.cells #[.int .i64 4, .int .i64 k, .int .i64 i, .slice so l.length sc, .int .i64 v0, .int .i64 v1, .int .i64 x0, .int .i64 x1, .string t] 37) w.heap.size = some (.cells #[.int .i64 4, .int .i64 k, .int .i64 i, .slice so l.length sc, .int .i64 v0, .int .i64 v1, .int .i64 x0, .int .i64 x1, .string t] 37)) := Lib.hid kadd_self
  clear h hg hr hl ht hn
  go_enter Try.func9, Try.ntmps9
  go_upto_region 1 with fail
  generalize w.alloc (.cells #[.int .i64 4, .int .i64 k, .int .i64 i, .slice so l.length sc, .int .i64 v0, .int .i64 v1, .int .i64 x0, .int .i64 x1, .string t] 37) = w1 at *
  generalize hab : w.heap.size = ab at *
  clear hab
  obtain ⟨a0, a1, a2, a3, a4, a5, a6, a7, a8⟩ := row9 (HA.out.at HK0.out)
  obtain ⟨R, hst, hlo, hkr, hgo⟩ := HA.out.sstep
  have HGO := Lib.hid hgo
  have hcc := stsymbol_any gs R s t w1 hst (by have := HG.out.nm; have := HLT.out.1; omega)
  have HCC := Lib.hid hcc
  clear hcc hst hlo hkr hgo
  go_wp2_with fail
  refine HCC.out.mono ?_
  rintro e w2 ⟨⟨⟨r0, r1⟩, r2⟩, s1, rfl, hsy1, hp2⟩
  have HSY1 := Lib.hid hsy1
  have HND1 : Hid s1.ns.Nodup := Lib.hid (by obtain ⟨_, h1, _⟩ := hp2; obtain ⟨_, _, _, _, h2⟩ := h1; exact h2.ok.nd)
  clear hsy1
  simp only
  have HA2 := Lib.hid (HGO.out _ _ hp2)
  clear hp2 HGO HCC a0 a1 a2 a3 a4 a5 a6 a7 a8 HA
  have HA3 := Lib.hid (HA2.out.alloc (.cells #[.int .i64 r0, .int .i64 r1] 35))
  have HS1 : Hid (ab ≠ w2.heap.size) := Lib.hid fun e => HA2.out.new HK0.out (by omega)
  go_upto_region 14 with fail
  generalize w2.alloc (.cells #[.int .i64 r0, .int .i64 r1] 35) = w3 at *
  have HBE : Hid (w2.heap.size ≤ w2.heap.size) := Lib.hid (Nat.le_refl _)
  generalize hb1e : w2.heap.size = b1 at HBE HS1 HA3 ⊢
  have HBE : Hid (w2.heap.size ≤ b1) := Lib.hid (by omega)
  clear hb1e
  have HK1 := Lib.hid (kadd_old (n := b1) (o' := .cells #[.int .i64 r0, .int .i64 r1] 35) HK0.out HS1.out)
  have HKB1 : Hid (kadd (kadd κ ab (.cells #[.int .i64 4, .int .i64 k, .int .i64 i, .slice so l.length sc, .int .i64 v0, .int .i64 v1, .int .i64 x0, .int .i64 x1, .string t] 37)) b1 (.cells #[.int .i64 r0, .int .i64 r1] 35) b1 = some (.cells #[.int .i64 r0, .int .i64 r1] 35)) := Lib.hid kadd_self
  obtain ⟨a0, a1, a2, a3, a4, a5, a6, a7, a8⟩ := row9 (HA3.out.at HK1.out)
  obtain ⟨Q, hst, hlo, hkr, hgo⟩ := HA3.out.rstep
  have HGO := Lib.hid hgo
  have hcc := rsymbol_any gm Q s t w3 hst (by have := HG.out.nm; have := HLT.out.1; omega)
  have HCC := Lib.hid hcc
  clear hcc hst hlo hkr hgo
  go_wp2_with fail
  refine HCC.out.mono ?_
  rintro e w4 ⟨rB, s2, rfl, hsy2, hp4⟩
  have hnd2 : s2.ns.Nodup := by obtain ⟨_, h1, _⟩ := hp4; exact h1.ok.nd
  obtain ⟨rfl, rfl⟩ := HSY1.out.one hsy2 HND1.out hnd2
  clear hsy2 hnd2
  simp only
  have HA4 := Lib.hid (HGO.out _ _ hp4)
  clear hp4 HGO HCC a0 a1 a2 a3 a4 a5 a6 a7 a8 HA3
  have HA5 := Lib.hid (HA4.out.alloc (.cells #[.int .i64 r0, .int .i64 r1] 35))
  have HS2 : Hid (b1 ≠ w4.heap.size) := Lib.hid fun e => HA4.out.new HKB1.out (by omega)
  have HS3 : Hid (ab ≠ w4.heap.size) := Lib.hid fun e => HA4.out.new HK1.out (by omega)
  have HSUB4 : Hid (∀ b o, κ b = some o → kadd κ ab (.cells #[.int .i64 4, .int .i64 k, .int .i64 i, .slice so l.length sc, .int .i64 v0, .int .i64 v1, .int .i64 x0, .int .i64 x1, .string t] 37) b = some o ∧ b ≠ b1 ∧ b ≠ w4.heap.size) := Lib.hid fun b o hk => by
    have h1 := kadd_old (n := ab) (o' := .cells #[.int .i64 4, .int .i64 k, .int .i64 i, .slice so l.length sc, .int .i64 v0, .int .i64 v1, .int .i64 x0, .int .i64 x1, .string t] 37) hk (HSUB.out b o hk)
    have h2 : b ≠ b1 := fun e => HA2.out.new h1 (by rw [e]; exact HBE.out)
    exact ⟨h1, h2, fun e => HA4.out.new (kadd_old (n := b1) (o' := .cells #[.int .i64 r0, .int .i64 r1] 35) h1 h2) (by omega)⟩
  go_upto_region 15 with fail
  generalize w4.alloc (.cells #[.int .i64 r0, .int .i64 r1] 35) = w5 at *
  have p := row2 (HA5.out.at (kadd_old (n := w4.heap.size) (o' := .cells #[.int .i64 r0, .int .i64 r1] 35) HKB1.out HS2.out))
  have q := row2 (HA5.out.at (b := w4.heap.size) kadd_self)
  obtain ⟨p0, p1, _⟩ := p
  obtain ⟨q0, q1, _⟩ := q
  go_wp2_with fail
  go_ret
  exact ⟨rfl, _, (HA5.out.sub fun b o hk => kadd_old (kadd_old (HSUB4.out b o hk).1 (HSUB4.out b o hk).2.1) (HSUB4.out b o hk).2.2), HG.out.sym HSY1.out⟩


set_option maxRecDepth 100000 in
set_option maxHeartbeats 8000000 in
theorem act5_any (w0 w : World) (gs gm : Nat) (s : St) (n : Nat) (κ : Nat → Option Obj) (d k i : Int) (sv : Value) (l : List (Int × Int)) (v x : Int × Int) (t : ByteArray) (h : TwoX w0 w gs gm s s κ) (hg : Gd s n) (hn : n < 1000) (hr : RowV w0 sv l.length 2 (vcs l)) (hl : l.length ≤ 100) (ht : t.size ≤ 140737488355328) (hd : d = 5) :
    Calls Try.prog 9 #[.pointer (some ⟨gs, 0, none⟩), .pointer (some ⟨gm, 0, none⟩), .agg #[.int .i64 d, .int .i64 k, .int .i64 i, sv, .int .i64 v.1, .int .i64 v.2, .int .i64 x.1, .int .i64 x.2, .string t]] w fun e w' => e = .returned (.bool true) ∧ ∃ s', TwoX w0 w' gs gm s' s' κ ∧ Gd s' (n + 1) := by
  subst hd
  obtain ⟨so, sc, rfl⟩ := rowv_slice hr
  obtain ⟨v0, v1⟩ := v
  obtain ⟨x0, x1⟩ := x
  simp only
  have HG := Lib.hid hg
  have HR := Lib.hid hr
  have HLT := Lib.hid (And.intro hn (And.intro hl ht))
  have HSUB : Hid (∀ b o, κ b = some o → b ≠ w.heap.size) := Lib.hid fun b o hk e => h.new hk (by omega)
  have HA := Lib.hid (h.alloc (.cells #[.int .i64 5, .int .i64 k, .int .i64 i, .slice so l.length sc, .int .i64 v0, .int .i64 v1, .int .i64 x0, .int .i64 x1, .string t] 37))
  have HK0 : Hid (kadd κ w.heap.size (.cells #[.int .i64 5, .int .i64 k, .int .i64 i, .slice so l.length sc, .int .i64 v0, .int .i64 v1, .int .i64 x0, .int .i64 x1, .string t] 37) w.heap.size = some (.cells #[.int .i64 5, .int .i64 k, .int .i64 i, .slice so l.length sc, .int .i64 v0, .int .i64 v1, .int .i64 x0, .int .i64 x1, .string t] 37)) := Lib.hid kadd_self
  clear h hg hr hl ht hn
  obtain ⟨r, hrr⟩ : ∃ r, r = s.nameA (v0, v1) := ⟨_, rfl⟩
  have HRR := Lib.hid hrr
  clear hrr
  obtain ⟨r0, r1⟩ := r
  go_enter Try.func9, Try.ntmps9
  go_upto_region 1 with fail
  generalize w.alloc (.cells #[.int .i64 5, .int .i64 k, .int .i64 i, .slice so l.length sc, .int .i64 v0, .int .i64 v1, .int .i64 x0, .int .i64 x1, .string t] 37) = w1 at *
  generalize hab : w.heap.size = ab at *
  clear hab
  obtain ⟨a0, a1, a2, a3, a4, a5, a6, a7, a8⟩ := row9 (HA.out.at HK0.out)
  obtain ⟨R, hst, hlo, hkr, hgo⟩ := HA.out.sstep
  have hcc := stname_any gs R s (v0, v1) w1 hst HG.out.nz
  rw [← HRR.out] at hcc
  have HCC := Lib.hid hcc
  clear hcc hst hlo hkr hgo
  go_wp2_with fail
  refine HCC.out.mono ?_
  rintro e w2 ⟨rfl, hp2⟩
  have HA2 := Lib.hid (HA.out.below hp2)
  clear hp2 HCC a0 a1 a2 a3 a4 a5 a6 a7 a8 HA
  obtain ⟨a0, a1, a2, a3, a4, a5, a6, a7, a8⟩ := row9 (HA2.out.at HK0.out)
  obtain ⟨Q, hst, hlo, hkr, hgo⟩ := HA2.out.rstep
  have hcc := rname_any gm Q s (v0, v1) w2 hst
  rw [← HRR.out] at hcc
  have HCC := Lib.hid hcc
  clear hcc hst hlo hkr hgo
  go_wp2_with fail
  refine HCC.out.mono ?_
  rintro e w4 ⟨rfl, hp4⟩
  have HA4 := Lib.hid (HA2.out.below hp4)
  clear hp4 HCC a0 a1 a2 a3 a4 a5 a6 a7 a8 HA2
  go_wp2_with fail
  go_ret
  exact ⟨by simp, _, (HA4.out.sub fun b o hk => kadd_old hk (HSUB.out b o hk)), HG.out.more (by omega)⟩


set_option maxRecDepth 100000 in
set_option maxHeartbeats 8000000 in
theorem act0_any (w0 w : World) (gs gm : Nat) (s : St) (n : Nat) (κ : Nat → Option Obj) (d k i : Int) (sv : Value) (l : List (Int × Int)) (v x : Int × Int) (t : ByteArray) (h : TwoX w0 w gs gm s s κ) (hg : Gd s n) (hn : n < 1000) (hr : RowV w0 sv l.length 2 (vcs l)) (hl : l.length ≤ 100) (ht : t.size ≤ 140737488355328) (hd : d ≠ 1 ∧ d ≠ 2 ∧ d ≠ 3 ∧ d ≠ 4 ∧ d ≠ 5 ∧ d ≠ 6 ∧ d ≠ 7) :
    Calls Try.prog 9 #[.pointer (some ⟨gs, 0, none⟩), .pointer (some ⟨gm, 0, none⟩), .agg #[.int .i64 d, .int .i64 k, .int .i64 i, sv, .int .i64 v.1, .int .i64 v.2, .int .i64 x.1, .int .i64 x.2, .string t]] w fun e w' => e = .returned (.bool true) ∧ ∃ s', TwoX w0 w' gs gm s' s' κ ∧ Gd s' (n + 1) := by
  obtain ⟨q1, q2, q3, q4, q5, q6, q7⟩ := hd
  obtain ⟨so, sc, rfl⟩ := rowv_slice hr
  obtain ⟨v0, v1⟩ := v
  obtain ⟨x0, x1⟩ := x
  simp only
  have HG := Lib.hid hg
  have HR := Lib.hid hr
  have HLT := Lib.hid (And.intro hn (And.intro hl ht))
  have HSUB : Hid (∀ b o, κ b = some o → b ≠ w.heap.size) := Lib.hid fun b o hk e => h.new hk (by omega)
  have HA := Lib.hid (h.alloc (.cells #[.int .i64 d, .int .i64 k, .int .i64 i, .slice so l.length sc, .int .i64 v0, .int .i64 v1, .int .i64 x0, .int .i64 x1, .string t] 37))
  have HK0 : Hid (kadd κ w.heap.size (.cells #[.int .i64 d, .int .i64 k, .int .i64 i, .slice so l.length sc, .int .i64 v0, .int .i64 v1, .int .i64 x0, .int .i64 x1, .string t] 37) w.heap.size = some (.cells #[.int .i64 d, .int .i64 k, .int .i64 i, .slice so l.length sc, .int .i64 v0, .int .i64 v1, .int .i64 x0, .int .i64 x1, .string t] 37)) := Lib.hid kadd_self
  clear h hg hr hl ht hn
  have q1b : (d == 1) = false := by rw [beq_eq_false_iff_ne]; exact q1
  have q2b : (d == 2) = false := by rw [beq_eq_false_iff_ne]; exact q2
  have q3b : (d == 3) = false := by rw [beq_eq_false_iff_ne]; exact q3
  have q4b : (d == 4) = false := by rw [beq_eq_false_iff_ne]; exact q4
  have q5b : (d == 5) = false := by rw [beq_eq_false_iff_ne]; exact q5
  have q6b : (d == 6) = false := by rw [beq_eq_false_iff_ne]; exact q6
  have q7b : (d == 7) = false := by rw [beq_eq_false_iff_ne]; exact q7
  clear q1 q2 q3 q4 q5 q6 q7
  go_enter Try.func9, Try.ntmps9
  go_upto_region 1 with fail
  generalize w.alloc (.cells #[.int .i64 d, .int .i64 k, .int .i64 i, .slice so l.length sc, .int .i64 v0, .int .i64 v1, .int .i64 x0, .int .i64 x1, .string t] 37) = w1 at *
  generalize hab : w.heap.size = ab at *
  clear hab
  obtain ⟨a0, a1, a2, a3, a4, a5, a6, a7, a8⟩ := row9 (HA.out.at HK0.out)
  go_wp2_with fail
  go_ret
  exact ⟨rfl, _, (HA.out.sub fun b o hk => kadd_old hk (HSUB.out b o hk)), HG.out.more (by omega)⟩

end Go.Proofs.Ytioidaojnbenbaa
