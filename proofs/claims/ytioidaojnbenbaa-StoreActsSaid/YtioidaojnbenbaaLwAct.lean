/- law06's act: each call answers alike on both. | law06's act: Set, Make and Collect. | law06's act: Collect. -/
import Derived.Test.YtioidaojnbenbaaTwoX
import Derived.Test.YtioidaojnbenbaaStCollect
import Derived.Test.YtioidaojnbenbaaRsColM
import Derived.Test.YtioidaojnbenbaaLwSame
import Derived.Test.YtioidaojnbenbaaRsSym
import Derived.Test.YtioidaojnbenbaaRsWrp
import Derived.Laws.StructEq
import Derived.Test.YtioidaojnbenbaaOrdV
namespace Go.Proofs.Ytioidaojnbenbaa
open Go.RowKit

theorem row9 {W : World} {g : Nat} {a0 a1 a2 a3 a4 a5 a6 a7 a8 : Value} {e : TypeId} (h : W.heap[g]? = some (.cells #[a0, a1, a2, a3, a4, a5, a6, a7, a8] e (0, 0))) : W.cell? ⟨g, 0, none⟩ = some a0 ∧ W.cell? ⟨g, 1, none⟩ = some a1 ∧ W.cell? ⟨g, 2, none⟩ = some a2 ∧ W.cell? ⟨g, 3, none⟩ = some a3 ∧ W.cell? ⟨g, 4, none⟩ = some a4 ∧ W.cell? ⟨g, 5, none⟩ = some a5 ∧ W.cell? ⟨g, 6, none⟩ = some a6 ∧ W.cell? ⟨g, 7, none⟩ = some a7 ∧ W.cell? ⟨g, 8, none⟩ = some a8 :=
  ⟨cell_heap h 0, cell_heap h 1, cell_heap h 2, cell_heap h 3, cell_heap h 4, cell_heap h 5, cell_heap h 6, cell_heap h 7, cell_heap h 8⟩
theorem kadd_old {κ : Nat → Option Obj} {n b : Nat} {o o' : Obj} (h : κ b = some o) (hb : b ≠ n) : kadd κ n o' b = some o := by rw [kadd_ne hb]; exact h


set_option maxRecDepth 100000 in
set_option maxHeartbeats 8000000 in
theorem act3_any (w0 w : World) (gs gm : Nat) (s : St) (n : Nat) (κ : Nat → Option Obj) (d k i : Int) (sv : Value) (l : List (Int × Int)) (v x : Int × Int) (t : ByteArray) (h : TwoX w0 w gs gm s s κ) (hg : Gd s n) (hn : n < 1000) (hr : RowV w0 sv l.length 2 (vcs l)) (hl : l.length ≤ 100) (ht : t.size ≤ 140737488355328) (hd : d = 3) :
    Calls Try.prog 9 #[.pointer (some ⟨gs, 0, none⟩), .pointer (some ⟨gm, 0, none⟩), .agg #[.int .i64 d, .int .i64 k, .int .i64 i, sv, .int .i64 v.1, .int .i64 v.2, .int .i64 x.1, .int .i64 x.2, .string t]] w fun e w' => e = .returned (.bool true) ∧ ∃ s', TwoX w0 w' gs gm s' s' κ ∧ Gd s' (n + 1) := by
  subst hd
  obtain ⟨so, sc, rfl⟩ := rowv_slice hr
  obtain ⟨v0, v1⟩ := v
  obtain ⟨x0, x1⟩ := x
  simp only
  have HG := Lib.hid hg
  have HR := Lib.hid hr
  have HLT := Lib.hid (And.intro hn (And.intro hl ht))
  have HSUB : Hid (∀ b o, κ b = some o → b ≠ w.heap.size) := Lib.hid fun b o hk e => h.new hk (by omega)
  have HA := Lib.hid (h.alloc (.cells #[.int .i64 3, .int .i64 k, .int .i64 i, .slice so l.length sc, .int .i64 v0, .int .i64 v1, .int .i64 x0, .int .i64 x1, .string t] 37))
  have HK0 : Hid (kadd κ w.heap.size (.cells #[.int .i64 3, .int .i64 k, .int .i64 i, .slice so l.length sc, .int .i64 v0, .int .i64 v1, .int .i64 x0, .int .i64 x1, .string t] 37) w.heap.size = some (.cells #[.int .i64 3, .int .i64 k, .int .i64 i, .slice so l.length sc, .int .i64 v0, .int .i64 v1, .int .i64 x0, .int .i64 x1, .string t] 37)) := Lib.hid kadd_self
  clear h hg hr hl ht hn
  obtain ⟨r, hrr⟩ : ∃ r, r = s.get (v0, v1) i := ⟨_, rfl⟩
  have HRR := Lib.hid hrr
  clear hrr
  obtain ⟨⟨r0, r1⟩, r2⟩ := r
  go_enter Try.func9, Try.ntmps9
  go_upto_region 1 with fail
  generalize w.alloc (.cells #[.int .i64 3, .int .i64 k, .int .i64 i, .slice so l.length sc, .int .i64 v0, .int .i64 v1, .int .i64 x0, .int .i64 x1, .string t] 37) = w1 at *
  generalize hab : w.heap.size = ab at *
  clear hab
  obtain ⟨a0, a1, a2, a3, a4, a5, a6, a7, a8⟩ := row9 (HA.out.at HK0.out)
  obtain ⟨R, hst, hlo, hkr, hgo⟩ := HA.out.sstep
  have HGO := Lib.hid hgo
  have hcc := stget_any gs R s (v0, v1) i w1 hst
  simp only [vV] at hcc
  rw [← HRR.out] at hcc
  have HCC := Lib.hid hcc
  clear hcc hst hlo hkr hgo
  go_wp2_with fail
  refine HCC.out.mono ?_
  rintro e w2 ⟨rfl, hp2⟩
  have HA2 := Lib.hid (HA.out.below hp2)
  clear hp2 HGO HCC a0 a1 a2 a3 a4 a5 a6 a7 a8 HA
  have HA3 := Lib.hid (HA2.out.alloc (.cells #[.int .i64 r0, .int .i64 r1] 35))
  have HS1 : Hid (ab ≠ w2.heap.size) := Lib.hid fun e => HA2.out.new HK0.out (by omega)
  go_upto_region 10 with fail
  generalize w2.alloc (.cells #[.int .i64 r0, .int .i64 r1] 35) = w3 at *
  have HBE : Hid (w2.heap.size ≤ w2.heap.size) := Lib.hid (Nat.le_refl _)
  generalize hb1e : w2.heap.size = b1 at HBE HS1 HA3 ⊢
  have HBE : Hid (w2.heap.size ≤ b1) := Lib.hid (by omega)
  clear hb1e
  have HK1 := Lib.hid (kadd_old (n := b1) (o' := .cells #[.int .i64 r0, .int .i64 r1] 35) HK0.out HS1.out)
  have HKB1 : Hid (kadd (kadd κ ab (.cells #[.int .i64 3, .int .i64 k, .int .i64 i, .slice so l.length sc, .int .i64 v0, .int .i64 v1, .int .i64 x0, .int .i64 x1, .string t] 37)) b1 (.cells #[.int .i64 r0, .int .i64 r1] 35) b1 = some (.cells #[.int .i64 r0, .int .i64 r1] 35)) := Lib.hid kadd_self
  obtain ⟨a0, a1, a2, a3, a4, a5, a6, a7, a8⟩ := row9 (HA3.out.at HK1.out)
  obtain ⟨Q, hst, hlo, hkr, hgo⟩ := HA3.out.rstep
  have HGO := Lib.hid hgo
  have hcc := rget_any gm Q s (v0, v1) i w3 hst HG.out.kd
  rw [← HRR.out] at hcc
  have HCC := Lib.hid hcc
  clear hcc hst hlo hkr hgo
  go_wp2_with fail
  refine HCC.out.mono ?_
  rintro e w4 ⟨rfl, hp4⟩
  have HA4 := Lib.hid (HA3.out.below hp4)
  clear hp4 HGO HCC a0 a1 a2 a3 a4 a5 a6 a7 a8 HA3
  have HA5 := Lib.hid (HA4.out.alloc (.cells #[.int .i64 r0, .int .i64 r1] 35))
  have HS2 : Hid (b1 ≠ w4.heap.size) := Lib.hid fun e => HA4.out.new HKB1.out (by omega)
  have HS3 : Hid (ab ≠ w4.heap.size) := Lib.hid fun e => HA4.out.new HK1.out (by omega)
  have HSUB4 : Hid (∀ b o, κ b = some o → kadd κ ab (.cells #[.int .i64 3, .int .i64 k, .int .i64 i, .slice so l.length sc, .int .i64 v0, .int .i64 v1, .int .i64 x0, .int .i64 x1, .string t] 37) b = some o ∧ b ≠ b1 ∧ b ≠ w4.heap.size) := Lib.hid fun b o hk => by
    have h1 := kadd_old (n := ab) (o' := .cells #[.int .i64 3, .int .i64 k, .int .i64 i, .slice so l.length sc, .int .i64 v0, .int .i64 v1, .int .i64 x0, .int .i64 x1, .string t] 37) hk (HSUB.out b o hk)
    have h2 : b ≠ b1 := fun e => HA2.out.new h1 (by rw [e]; exact HBE.out)
    exact ⟨h1, h2, fun e => HA4.out.new (kadd_old (n := b1) (o' := .cells #[.int .i64 r0, .int .i64 r1] 35) h1 h2) (by omega)⟩
  go_upto_region 11 with fail
  generalize w4.alloc (.cells #[.int .i64 r0, .int .i64 r1] 35) = w5 at *
  have p := row2 (HA5.out.at (kadd_old (n := w4.heap.size) (o' := .cells #[.int .i64 r0, .int .i64 r1] 35) HKB1.out HS2.out))
  have q := row2 (HA5.out.at (b := w4.heap.size) kadd_self)
  obtain ⟨p0, p1, _⟩ := p
  obtain ⟨q0, q1, _⟩ := q
  go_wp2_with fail
  go_ret
  exact ⟨rfl, _, (HA5.out.sub fun b o hk => kadd_old (kadd_old (HSUB4.out b o hk).1 (HSUB4.out b o hk).2.1) (HSUB4.out b o hk).2.2), HG.out.more (by omega)⟩


set_option maxRecDepth 100000 in
set_option maxHeartbeats 8000000 in
theorem act6_any (w0 w : World) (gs gm : Nat) (s : St) (n : Nat) (κ : Nat → Option Obj) (d k i : Int) (sv : Value) (l : List (Int × Int)) (v x : Int × Int) (t : ByteArray) (h : TwoX w0 w gs gm s s κ) (hg : Gd s n) (hn : n < 1000) (hr : RowV w0 sv l.length 2 (vcs l)) (hl : l.length ≤ 100) (ht : t.size ≤ 140737488355328) (hd : d = 6) :
    Calls Try.prog 9 #[.pointer (some ⟨gs, 0, none⟩), .pointer (some ⟨gm, 0, none⟩), .agg #[.int .i64 d, .int .i64 k, .int .i64 i, sv, .int .i64 v.1, .int .i64 v.2, .int .i64 x.1, .int .i64 x.2, .string t]] w fun e w' => e = .returned (.bool true) ∧ ∃ s', TwoX w0 w' gs gm s' s' κ ∧ Gd s' (n + 1) := by
  subst hd
  obtain ⟨so, sc, rfl⟩ := rowv_slice hr
  obtain ⟨v0, v1⟩ := v
  obtain ⟨x0, x1⟩ := x
  simp only
  have HG := Lib.hid hg
  have HR := Lib.hid hr
  have HLT := Lib.hid (And.intro hn (And.intro hl ht))
  have HSUB : Hid (∀ b o, κ b = some o → b ≠ w.heap.size) := Lib.hid fun b o hk e => h.new hk (by omega)
  have HA := Lib.hid (h.alloc (.cells #[.int .i64 6, .int .i64 k, .int .i64 i, .slice so l.length sc, .int .i64 v0, .int .i64 v1, .int .i64 x0, .int .i64 x1, .string t] 37))
  have HK0 : Hid (kadd κ w.heap.size (.cells #[.int .i64 6, .int .i64 k, .int .i64 i, .slice so l.length sc, .int .i64 v0, .int .i64 v1, .int .i64 x0, .int .i64 x1, .string t] 37) w.heap.size = some (.cells #[.int .i64 6, .int .i64 k, .int .i64 i, .slice so l.length sc, .int .i64 v0, .int .i64 v1, .int .i64 x0, .int .i64 x1, .string t] 37)) := Lib.hid kadd_self
  clear h hg hr hl ht hn
  obtain ⟨r, hrr⟩ : ∃ r, r = (s.wrap ⟨4, t, false, [], 0, [], []⟩).1 := ⟨_, rfl⟩
  have HRR := Lib.hid hrr
  clear hrr
  obtain ⟨⟨r0, r1⟩, r2⟩ := r
  go_enter Try.func9, Try.ntmps9
  go_upto_region 1 with fail
  generalize w.alloc (.cells #[.int .i64 6, .int .i64 k, .int .i64 i, .slice so l.length sc, .int .i64 v0, .int .i64 v1, .int .i64 x0, .int .i64 x1, .string t] 37) = w1 at *
  generalize hab : w.heap.size = ab at *
  clear hab
  obtain ⟨a0, a1, a2, a3, a4, a5, a6, a7, a8⟩ := row9 (HA.out.at HK0.out)
  obtain ⟨R, hst, hlo, hkr, hgo⟩ := HA.out.sstep
  have HGO := Lib.hid hgo
  have hcc := stwrap_any gs R s ⟨4, t, false, [], 0, [], []⟩ (.slice none 0 0) (.slice none 0 0) (.slice none 0 0) none 0 w1 hst (by have := HLT.out.2.2; show t.size ≤ _; omega) ⟨rfl, Nat.zero_le _, none, 0, rfl, Nat.le_refl _, .inl ⟨rfl, fun _ => rfl⟩⟩ ⟨rfl, Nat.zero_le _, none, 0, rfl, Nat.le_refl _, .inl ⟨rfl, fun _ => rfl⟩⟩ ⟨rfl, Nat.zero_le _, none, 0, rfl, Nat.le_refl _, .inl ⟨rfl, fun _ => rfl⟩⟩ ⟨rfl, Nat.zero_le _, none, 0, rfl, Nat.le_refl _, .inl ⟨rfl, fun _ => rfl⟩⟩ (Nat.zero_le _) (Nat.zero_le _) (Nat.zero_le _)
  simp only [vV] at hcc
  rw [← HRR.out] at hcc
  have HCC := Lib.hid hcc
  clear hcc hst hlo hkr hgo
  go_wp2_with fail
  refine HCC.out.mono ?_
  rintro e w2 ⟨rfl, hp2⟩
  have HA2 := Lib.hid (HGO.out _ _ hp2)
  clear hp2 HGO HCC a0 a1 a2 a3 a4 a5 a6 a7 a8 HA
  have HA3 := Lib.hid (HA2.out.alloc (.cells #[.int .i64 r0, .int .i64 r1] 35))
  have HS1 : Hid (ab ≠ w2.heap.size) := Lib.hid fun e => HA2.out.new HK0.out (by omega)
  go_upto_region 22 with fail
  generalize w2.alloc (.cells #[.int .i64 r0, .int .i64 r1] 35) = w3 at *
  have HBE : Hid (w2.heap.size ≤ w2.heap.size) := Lib.hid (Nat.le_refl _)
  generalize hb1e : w2.heap.size = b1 at HBE HS1 HA3 ⊢
  have HBE : Hid (w2.heap.size ≤ b1) := Lib.hid (by omega)
  clear hb1e
  have HK1 := Lib.hid (kadd_old (n := b1) (o' := .cells #[.int .i64 r0, .int .i64 r1] 35) HK0.out HS1.out)
  have HKB1 : Hid (kadd (kadd κ ab (.cells #[.int .i64 6, .int .i64 k, .int .i64 i, .slice so l.length sc, .int .i64 v0, .int .i64 v1, .int .i64 x0, .int .i64 x1, .string t] 37)) b1 (.cells #[.int .i64 r0, .int .i64 r1] 35) b1 = some (.cells #[.int .i64 r0, .int .i64 r1] 35)) := Lib.hid kadd_self
  obtain ⟨a0, a1, a2, a3, a4, a5, a6, a7, a8⟩ := row9 (HA3.out.at HK1.out)
  obtain ⟨Q, hst, hlo, hkr, hgo⟩ := HA3.out.rstep
  have HGO := Lib.hid hgo
  have hcc := rwrap_any gm Q s ⟨4, t, false, [], 0, [], []⟩ w3 hst rfl
  rw [← HRR.out] at hcc
  have HCC := Lib.hid hcc
  clear hcc hst hlo hkr hgo
  go_wp2_with fail
  refine HCC.out.mono ?_
  rintro e w4 ⟨rfl, hp4⟩
  have HA4 := Lib.hid (HGO.out _ _ hp4)
  clear hp4 HGO HCC a0 a1 a2 a3 a4 a5 a6 a7 a8 HA3
  have HA5 := Lib.hid (HA4.out.alloc (.cells #[.int .i64 r0, .int .i64 r1] 35))
  have HS2 : Hid (b1 ≠ w4.heap.size) := Lib.hid fun e => HA4.out.new HKB1.out (by omega)
  have HS3 : Hid (ab ≠ w4.heap.size) := Lib.hid fun e => HA4.out.new HK1.out (by omega)
  have HSUB4 : Hid (∀ b o, κ b = some o → kadd κ ab (.cells #[.int .i64 6, .int .i64 k, .int .i64 i, .slice so l.length sc, .int .i64 v0, .int .i64 v1, .int .i64 x0, .int .i64 x1, .string t] 37) b = some o ∧ b ≠ b1 ∧ b ≠ w4.heap.size) := Lib.hid fun b o hk => by
    have h1 := kadd_old (n := ab) (o' := .cells #[.int .i64 6, .int .i64 k, .int .i64 i, .slice so l.length sc, .int .i64 v0, .int .i64 v1, .int .i64 x0, .int .i64 x1, .string t] 37) hk (HSUB.out b o hk)
    have h2 : b ≠ b1 := fun e => HA2.out.new h1 (by rw [e]; exact HBE.out)
    exact ⟨h1, h2, fun e => HA4.out.new (kadd_old (n := b1) (o' := .cells #[.int .i64 r0, .int .i64 r1] 35) h1 h2) (by omega)⟩
  go_upto_region 23 with fail
  generalize w4.alloc (.cells #[.int .i64 r0, .int .i64 r1] 35) = w5 at *
  have p := row2 (HA5.out.at (kadd_old (n := w4.heap.size) (o' := .cells #[.int .i64 r0, .int .i64 r1] 35) HKB1.out HS2.out))
  have q := row2 (HA5.out.at (b := w4.heap.size) kadd_self)
  obtain ⟨p0, p1, _⟩ := p
  obtain ⟨q0, q1, _⟩ := q
  go_wp2_with fail
  go_ret
  exact ⟨rfl, _, (HA5.out.sub fun b o hk => kadd_old (kadd_old (HSUB4.out b o hk).1 (HSUB4.out b o hk).2.1) (HSUB4.out b o hk).2.2), HG.out.wrap ⟨⟨t, rfl⟩, HLT.out.2.2⟩⟩


set_option maxRecDepth 100000 in
set_option maxHeartbeats 8000000 in
theorem act4_any (w0 w : World) (gs gm : Nat) (s : St) (n : Nat) (κ : Nat → Option Obj) (d k i : Int) (sv : Value) (l : List (Int × Int)) (v x : Int × Int) (t : ByteArray) (h : TwoX w0 w gs gm s s κ) (hg : Gd s n) (hn : n < 1000) (hr : RowV w0 sv l.length 2 (vcs l)) (hl : l.length ≤ 100) (ht : t.size ≤ 140737488355328) (hd : d = 4) :
    Calls Try.prog 9 #[.pointer (some ⟨gs, 0, none⟩), .pointer (some ⟨gm, 0, none⟩), .agg #[.int .i64 d, .int .i64 k, .int .i64 i, sv, .int .i64 v.1, .int .i64 v.2, .int .i64 x.1, .int .i64 x.2, .string t]] w fun e w' => e = .returned (.bool true) ∧ ∃ s', TwoX w0 w' gs gm s' s' κ ∧ Gd s' (n + 1) := by
  subst hd
  obtain ⟨so, sc, rfl⟩ := rowv_slice hr
  obtain ⟨v0, v1⟩ := v
  obtain ⟨x0, x1⟩ := x
  simp only
  have HG := Lib.hid hg
  have HR := Lib.hid hr
  have HLT := Lib.hid (And.intro hn (And.intro hl ht))
  have HSUB : Hid (∀ b o, κ b = some o → b ≠ w.heap.size) := Lib.hid fun b o hk e => h.new hk (by omega)
  have HA := Lib.hid (h.alloc (.cells #[.int .i64 4, .int .i64 k, .int .i64 i, .slice so l.length sc, .int .i64 v0, .int .i64 v1, .int .i64 x0, .int .i64 x1, .string t] 37))
  have HK0 : Hid (kadd κ w.heap.size (.cells #[.int .i64 4, .int .i64 k, .int .i64 i, .slice so l.length sc, .int .i64 v0, .int .i64 v1, .int .i64 x0, .int .i64 x1, .string t] 37) w.heap.size = some (.cells #[.int .i64 4, .int .i64 k, .int .i64 i, .slice so l.length sc, .int .i64 v0, .int .i64 v1, .int .i64 x0, .int .i64 x1, .string t] 37)) := Lib.hid kadd_self
  clear h hg hr hl ht hn
  go_enter Try.func9, Try.ntmps9
  go_upto_region 1 with fail
  generalize w.alloc (.cells #[.int .i64 4, .int .i64 k, .int .i64 i, .slice so l.length sc, .int .i64 v0, .int .i64 v1, .int .i64 x0, .int .i64 x1, .string t] 37) = w1 at *
  generalize hab : w.heap.size = ab at *
  clear hab
  obtain ⟨a0, a1, a2, a3, a4, a5, a6, a7, a8⟩ := row9 (HA.out.at HK0.out)
  obtain ⟨R, hst, hlo, hkr, hgo⟩ := HA.out.sstep
  have HGO := Lib.hid hgo
  have hcc := stsymbol_any gs R s t w1 hst (by have := HG.out.nm; have := HLT.out.1; omega)
  have HCC := Lib.hid hcc
  clear hcc hst hlo hkr hgo
  go_wp2_with fail
  refine HCC.out.mono ?_
  rintro e w2 ⟨⟨⟨r0, r1⟩, r2⟩, s1, rfl, hsy1, hp2⟩
  have HSY1 := Lib.hid hsy1
  have HND1 : Hid s1.ns.Nodup := Lib.hid (by obtain ⟨_, h1, _⟩ := hp2; obtain ⟨_, _, _, _, h2⟩ := h1; exact h2.ok.nd)
  clear hsy1
  simp only
  have HA2 := Lib.hid (HGO.out _ _ hp2)
  clear hp2 HGO HCC a0 a1 a2 a3 a4 a5 a6 a7 a8 HA
  have HA3 := Lib.hid (HA2.out.alloc (.cells #[.int .i64 r0, .int .i64 r1] 35))
  have HS1 : Hid (ab ≠ w2.heap.size) := Lib.hid fun e => HA2.out.new HK0.out (by omega)
  go_upto_region 14 with fail
  generalize w2.alloc (.cells #[.int .i64 r0, .int .i64 r1] 35) = w3 at *
  have HBE : Hid (w2.heap.size ≤ w2.heap.size) := Lib.hid (Nat.le_refl _)
  generalize hb1e : w2.heap.size = b1 at HBE HS1 HA3 ⊢
  have HBE : Hid (w2.heap.size ≤ b1) := Lib.hid (by omega)
  clear hb1e
  have HK1 := Lib.hid (kadd_old (n := b1) (o' := .cells #[.int .i64 r0, .int .i64 r1] 35) HK0.out HS1.out)
  have HKB1 : Hid (kadd (kadd κ ab (.cells #[.int .i64 4, .int .i64 k, .int .i64 i, .slice so l.length sc, .int .i64 v0, .int .i64 v1, .int .i64 x0, .int .i64 x1, .string t] 37)) b1 (.cells #[.int .i64 r0, .int .i64 r1] 35) b1 = some (.cells #[.int .i64 r0, .int .i64 r1] 35)) := Lib.hid kadd_self
  obtain ⟨a0, a1, a2, a3, a4, a5, a6, a7, a8⟩ := row9 (HA3.out.at HK1.out)
  obtain ⟨Q, hst, hlo, hkr, hgo⟩ := HA3.out.rstep
  have HGO := Lib.hid hgo
  have hcc := rsymbol_any gm Q s t w3 hst (by have := HG.out.nm; have := HLT.out.1; omega)
  have HCC := Lib.hid hcc
  clear hcc hst hlo hkr hgo
  go_wp2_with fail
  refine HCC.out.mono ?_
  rintro e w4 ⟨rB, s2, rfl, hsy2, hp4⟩
  have hnd2 : s2.ns.Nodup := by obtain ⟨_, h1, _⟩ := hp4; exact h1.ok.nd
  obtain ⟨rfl, rfl⟩ := HSY1.out.one hsy2 HND1.out hnd2
  clear hsy2 hnd2
  simp only
  have HA4 := Lib.hid (HGO.out _ _ hp4)
  clear hp4 HGO HCC a0 a1 a2 a3 a4 a5 a6 a7 a8 HA3
  have HA5 := Lib.hid (HA4.out.alloc (.cells #[.int .i64 r0, .int .i64 r1] 35))
  have HS2 : Hid (b1 ≠ w4.heap.size) := Lib.hid fun e => HA4.out.new HKB1.out (by omega)
  have HS3 : Hid (ab ≠ w4.heap.size) := Lib.hid fun e => HA4.out.new HK1.out (by omega)
  have HSUB4 : Hid (∀ b o, κ b = some o → kadd κ ab (.cells #[.int .i64 4, .int .i64 k, .int .i64 i, .slice so l.length sc, .int .i64 v0, .int .i64 v1, .int .i64 x0, .int .i64 x1, .string t] 37) b = some o ∧ b ≠ b1 ∧ b ≠ w4.heap.size) := Lib.hid fun b o hk => by
    have h1 := kadd_old (n := ab) (o' := .cells #[.int .i64 4, .int .i64 k, .int .i64 i, .slice so l.length sc, .int .i64 v0, .int .i64 v1, .int .i64 x0, .int .i64 x1, .string t] 37) hk (HSUB.out b o hk)
    have h2 : b ≠ b1 := fun e => HA2.out.new h1 (by rw [e]; exact HBE.out)
    exact ⟨h1, h2, fun e => HA4.out.new (kadd_old (n := b1) (o' := .cells #[.int .i64 r0, .int .i64 r1] 35) h1 h2) (by omega)⟩
  go_upto_region 15 with fail
  generalize w4.alloc (.cells #[.int .i64 r0, .int .i64 r1] 35) = w5 at *
  have p := row2 (HA5.out.at (kadd_old (n := w4.heap.size) (o' := .cells #[.int .i64 r0, .int .i64 r1] 35) HKB1.out HS2.out))
  have q := row2 (HA5.out.at (b := w4.heap.size) kadd_self)
  obtain ⟨p0, p1, _⟩ := p
  obtain ⟨q0, q1, _⟩ := q
  go_wp2_with fail
  go_ret
  exact ⟨rfl, _, (HA5.out.sub fun b o hk => kadd_old (kadd_old (HSUB4.out b o hk).1 (HSUB4.out b o hk).2.1) (HSUB4.out b o hk).2.2), HG.out.sym HSY1.out⟩


set_option maxRecDepth 100000 in
set_option maxHeartbeats 8000000 in
theorem act5_any (w0 w : World) (gs gm : Nat) (s : St) (n : Nat) (κ : Nat → Option Obj) (d k i : Int) (sv : Value) (l : List (Int × Int)) (v x : Int × Int) (t : ByteArray) (h : TwoX w0 w gs gm s s κ) (hg : Gd s n) (hn : n < 1000) (hr : RowV w0 sv l.length 2 (vcs l)) (hl : l.length ≤ 100) (ht : t.size ≤ 140737488355328) (hd : d = 5) :
    Calls Try.prog 9 #[.pointer (some ⟨gs, 0, none⟩), .pointer (some ⟨gm, 0, none⟩), .agg #[.int .i64 d, .int .i64 k, .int .i64 i, sv, .int .i64 v.1, .int .i64 v.2, .int .i64 x.1, .int .i64 x.2, .string t]] w fun e w' => e = .returned (.bool true) ∧ ∃ s', TwoX w0 w' gs gm s' s' κ ∧ Gd s' (n + 1) := by
  subst hd
  obtain ⟨so, sc, rfl⟩ := rowv_slice hr
  obtain ⟨v0, v1⟩ := v
  obtain ⟨x0, x1⟩ := x
  simp only
  have HG := Lib.hid hg
  have HR := Lib.hid hr
  have HLT := Lib.hid (And.intro hn (And.intro hl ht))
  have HSUB : Hid (∀ b o, κ b = some o → b ≠ w.heap.size) := Lib.hid fun b o hk e => h.new hk (by omega)
  have HA := Lib.hid (h.alloc (.cells #[.int .i64 5, .int .i64 k, .int .i64 i, .slice so l.length sc, .int .i64 v0, .int .i64 v1, .int .i64 x0, .int .i64 x1, .string t] 37))
  have HK0 : Hid (kadd κ w.heap.size (.cells #[.int .i64 5, .int .i64 k, .int .i64 i, .slice so l.length sc, .int .i64 v0, .int .i64 v1, .int .i64 x0, .int .i64 x1, .string t] 37) w.heap.size = some (.cells #[.int .i64 5, .int .i64 k, .int .i64 i, .slice so l.length sc, .int .i64 v0, .int .i64 v1, .int .i64 x0, .int .i64 x1, .string t] 37)) := Lib.hid kadd_self
  clear h hg hr hl ht hn
  obtain ⟨r, hrr⟩ : ∃ r, r = s.nameA (v0, v1) := ⟨_, rfl⟩
  have HRR := Lib.hid hrr
  clear hrr
  obtain ⟨r0, r1⟩ := r
  go_enter Try.func9, Try.ntmps9
  go_upto_region 1 with fail
  generalize w.alloc (.cells #[.int .i64 5, .int .i64 k, .int .i64 i, .slice so l.length sc, .int .i64 v0, .int .i64 v1, .int .i64 x0, .int .i64 x1, .string t] 37) = w1 at *
  generalize hab : w.heap.size = ab at *
  clear hab
  obtain ⟨a0, a1, a2, a3, a4, a5, a6, a7, a8⟩ := row9 (HA.out.at HK0.out)
  obtain ⟨R, hst, hlo, hkr, hgo⟩ := HA.out.sstep
  have hcc := stname_any gs R s (v0, v1) w1 hst HG.out.nz
  rw [← HRR.out] at hcc
  have HCC := Lib.hid hcc
  clear hcc hst hlo hkr hgo
  go_wp2_with fail
  refine HCC.out.mono ?_
  rintro e w2 ⟨rfl, hp2⟩
  have HA2 := Lib.hid (HA.out.below hp2)
  clear hp2 HCC a0 a1 a2 a3 a4 a5 a6 a7 a8 HA
  obtain ⟨a0, a1, a2, a3, a4, a5, a6, a7, a8⟩ := row9 (HA2.out.at HK0.out)
  obtain ⟨Q, hst, hlo, hkr, hgo⟩ := HA2.out.rstep
  have hcc := rname_any gm Q s (v0, v1) w2 hst
  rw [← HRR.out] at hcc
  have HCC := Lib.hid hcc
  clear hcc hst hlo hkr hgo
  go_wp2_with fail
  refine HCC.out.mono ?_
  rintro e w4 ⟨rfl, hp4⟩
  have HA4 := Lib.hid (HA2.out.below hp4)
  clear hp4 HCC a0 a1 a2 a3 a4 a5 a6 a7 a8 HA2
  go_wp2_with fail
  go_ret
  exact ⟨by simp, _, (HA4.out.sub fun b o hk => kadd_old hk (HSUB.out b o hk)), HG.out.more (by omega)⟩


set_option maxRecDepth 100000 in
set_option maxHeartbeats 8000000 in
theorem act0_any (w0 w : World) (gs gm : Nat) (s : St) (n : Nat) (κ : Nat → Option Obj) (d k i : Int) (sv : Value) (l : List (Int × Int)) (v x : Int × Int) (t : ByteArray) (h : TwoX w0 w gs gm s s κ) (hg : Gd s n) (hn : n < 1000) (hr : RowV w0 sv l.length 2 (vcs l)) (hl : l.length ≤ 100) (ht : t.size ≤ 140737488355328) (hd : d ≠ 1 ∧ d ≠ 2 ∧ d ≠ 3 ∧ d ≠ 4 ∧ d ≠ 5 ∧ d ≠ 6 ∧ d ≠ 7) :
    Calls Try.prog 9 #[.pointer (some ⟨gs, 0, none⟩), .pointer (some ⟨gm, 0, none⟩), .agg #[.int .i64 d, .int .i64 k, .int .i64 i, sv, .int .i64 v.1, .int .i64 v.2, .int .i64 x.1, .int .i64 x.2, .string t]] w fun e w' => e = .returned (.bool true) ∧ ∃ s', TwoX w0 w' gs gm s' s' κ ∧ Gd s' (n + 1) := by
  obtain ⟨q1, q2, q3, q4, q5, q6, q7⟩ := hd
  obtain ⟨so, sc, rfl⟩ := rowv_slice hr
  obtain ⟨v0, v1⟩ := v
  obtain ⟨x0, x1⟩ := x
  simp only
  have HG := Lib.hid hg
  have HR := Lib.hid hr
  have HLT := Lib.hid (And.intro hn (And.intro hl ht))
  have HSUB : Hid (∀ b o, κ b = some o → b ≠ w.heap.size) := Lib.hid fun b o hk e => h.new hk (by omega)
  have HA := Lib.hid (h.alloc (.cells #[.int .i64 d, .int .i64 k, .int .i64 i, .slice so l.length sc, .int .i64 v0, .int .i64 v1, .int .i64 x0, .int .i64 x1, .string t] 37))
  have HK0 : Hid (kadd κ w.heap.size (.cells #[.int .i64 d, .int .i64 k, .int .i64 i, .slice so l.length sc, .int .i64 v0, .int .i64 v1, .int .i64 x0, .int .i64 x1, .string t] 37) w.heap.size = some (.cells #[.int .i64 d, .int .i64 k, .int .i64 i, .slice so l.length sc, .int .i64 v0, .int .i64 v1, .int .i64 x0, .int .i64 x1, .string t] 37)) := Lib.hid kadd_self
  clear h hg hr hl ht hn
  have q1b : (d == 1) = false := by rw [beq_eq_false_iff_ne]; exact q1
  have q2b : (d == 2) = false := by rw [beq_eq_false_iff_ne]; exact q2
  have q3b : (d == 3) = false := by rw [beq_eq_false_iff_ne]; exact q3
  have q4b : (d == 4) = false := by rw [beq_eq_false_iff_ne]; exact q4
  have q5b : (d == 5) = false := by rw [beq_eq_false_iff_ne]; exact q5
  have q6b : (d == 6) = false := by rw [beq_eq_false_iff_ne]; exact q6
  have q7b : (d == 7) = false := by rw [beq_eq_false_iff_ne]; exact q7
  clear q1 q2 q3 q4 q5 q6 q7
  go_enter Try.func9, Try.ntmps9
  go_upto_region 1 with fail
  generalize w.alloc (.cells #[.int .i64 d, .int .i64 k, .int .i64 i, .slice so l.length sc, .int .i64 v0, .int .i64 v1, .int .i64 x0, .int .i64 x1, .string t] 37) = w1 at *
  generalize hab : w.heap.size = ab at *
  clear hab
  obtain ⟨a0, a1, a2, a3, a4, a5, a6, a7, a8⟩ := row9 (HA.out.at HK0.out)
  go_wp2_with fail
  go_ret
  exact ⟨rfl, _, (HA.out.sub fun b o hk => kadd_old hk (HSUB.out b o hk)), HG.out.more (by omega)⟩

end Go.Proofs.Ytioidaojnbenbaa
namespace Go.Proofs.Ytioidaojnbenbaa
open Go.RowKit

set_option maxRecDepth 100000 in
set_option maxHeartbeats 2000000 in
/-- law06's own: a row that shares nothing. -/
theorem vown_any (lv : Value) (l : List (Int × Int)) (w : World) (hr : RowV w lv l.length 2 (vcs l)) (hl : l.length ≤ 2000000) :
    Calls Try.prog 28 #[lv] w fun e w' => ∃ v', e = .returned v' ∧ w'.ownsRow w.heap.size 35 2 v' l.length (vcs l) ∧ Below w.heap.size w w' := by
  obtain ⟨i1, hi1, hy0, hy1, hy2⟩ := info_parts infoVal
  obtain ⟨lo, lc, rfl⟩ := rowv_slice hr
  have HR := Lib.hid (hr.below (below1 w (.cells #[] 35)))
  have HB := Lib.hid (below1 w (.cells #[] 35))
  have HR0 : Hid ((w.alloc (.cells #[] 35)).ownsRow w.heap.size 35 2 (.slice (some ⟨w.heap.size, 0, none⟩) 0 0) 0 []) := Lib.hid ⟨rfl, .inr ⟨_, _, _, rfl, Nat.le_refl _, heap_alloc_new w _, Nat.le_refl _, Nat.zero_le _, rfl, rfl⟩⟩
  clear hr
  go_enter Try.func28, Try.ntmps28
  go_wp2_with (at_builtin; go_loud (refine wpList_append_row _ rfl _ _ 33 rfl w.heap.size 35 i1 _ 2 16 Try.underlying33 hi1 hy0 hy1 hy2 rfl (by decide) (.slice (some ⟨w.heap.size, 0, none⟩) 0 0) 0 [] rfl HR0.out _ l.length (vcs l) rfl HR.out (vcs_one _) (by unfold maxLen; omega) (by omega) (by simp) ?_); go_loud (intro v' w7 hown7 hgrow7 hmv7; rw [Nat.zero_add, List.nil_append] at hown7; have HO7 := Lib.hid hown7; have HG7 := Lib.hid hgrow7; clear hown7 hgrow7 hmv7 hi1 hy0 hy1 hy2))
  go_ret
  exact ⟨_, rfl, HO7.out, HB.out.grown HG7.out (by simp) (fun q hq => by cases hq; exact Nat.le_refl _)⟩
theorem TwoX.grow {w0 w w' : World} {gs gm : Nat} {s t : St} {κ : Nat → Option Obj} (h : TwoX w0 w gs gm s t κ) (hb : Below w.heap.size w w') {b : Nat} {o : Obj} (hge : w.heap.size ≤ b) (ho : w'.heap[b]? = some o) : TwoX w0 w' gs gm s t (kadd κ b o) := by
  have h3 := h.below hb
  obtain ⟨R, Q, h1, h2⟩ := h
  refine ⟨R, Q, h1.below hb, fun b' o' hk => ?_⟩
  by_cases e : b' = b
  · subst e
    rw [kadd_self] at hk
    obtain rfl := Option.some.inj hk
    exact ⟨ho, h1.st.new_zero hge, Classical.byContradiction fun hn => by have := h1.rs.lt _ hn; omega, Nat.le_trans h1.st.bel.size hge⟩
  · rw [kadd_ne e] at hk
    exact ⟨(hb.block b' (Array.getElem?_eq_some_iff.1 (h2 b' o' hk).1).1).trans (h2 b' o' hk).1, (h2 b' o' hk).2⟩


set_option maxRecDepth 100000 in
set_option maxHeartbeats 8000000 in
theorem act2_any (w0 w : World) (gs gm : Nat) (s : St) (n : Nat) (κ : Nat → Option Obj) (d k i : Int) (sv : Value) (l : List (Int × Int)) (v x : Int × Int) (t : ByteArray) (h : TwoX w0 w gs gm s s κ) (hg : Gd s n) (hn : n < 1000) (hr : RowV w0 sv l.length 2 (vcs l)) (hl : l.length ≤ 100) (ht : t.size ≤ 140737488355328) (hd : d = 2) :
    Calls Try.prog 9 #[.pointer (some ⟨gs, 0, none⟩), .pointer (some ⟨gm, 0, none⟩), .agg #[.int .i64 d, .int .i64 k, .int .i64 i, sv, .int .i64 v.1, .int .i64 v.2, .int .i64 x.1, .int .i64 x.2, .string t]] w fun e w' => e = .returned (.bool true) ∧ ∃ s', TwoX w0 w' gs gm s' s' κ ∧ Gd s' (n + 1) := by
  subst hd
  obtain ⟨so, sc, rfl⟩ := rowv_slice hr
  obtain ⟨v0, v1⟩ := v
  obtain ⟨x0, x1⟩ := x
  simp only
  have HG := Lib.hid hg
  have HR := Lib.hid hr
  have HLT := Lib.hid (And.intro hn (And.intro hl ht))
  have HSUB : Hid (∀ b o, κ b = some o → b ≠ w.heap.size) := Lib.hid fun b o hk e => h.new hk (by omega)
  have HA := Lib.hid (h.alloc (.cells #[.int .i64 2, .int .i64 k, .int .i64 i, .slice so l.length sc, .int .i64 v0, .int .i64 v1, .int .i64 x0, .int .i64 x1, .string t] 37))
  have HK0 : Hid (kadd κ w.heap.size (.cells #[.int .i64 2, .int .i64 k, .int .i64 i, .slice so l.length sc, .int .i64 v0, .int .i64 v1, .int .i64 x0, .int .i64 x1, .string t] 37) w.heap.size = some (.cells #[.int .i64 2, .int .i64 k, .int .i64 i, .slice so l.length sc, .int .i64 v0, .int .i64 v1, .int .i64 x0, .int .i64 x1, .string t] 37)) := Lib.hid kadd_self
  clear h hg hr hl ht hn
  obtain ⟨c, s', hcs⟩ : ∃ c s', s.setA (v0, v1) i (x0, x1) = (c, s') := ⟨_, _, rfl⟩
  have HGD : Hid (Gd s' (n + 1)) := Lib.hid (by have := HG.out.setA (v0, v1) i (x0, x1); rw [hcs] at this; exact this)
  have HCS := Lib.hid hcs
  clear hcs
  go_enter Try.func9, Try.ntmps9
  go_upto_region 1 with fail
  generalize w.alloc (.cells #[.int .i64 2, .int .i64 k, .int .i64 i, .slice so l.length sc, .int .i64 v0, .int .i64 v1, .int .i64 x0, .int .i64 x1, .string t] 37) = w1 at *
  generalize hab : w.heap.size = ab at *
  clear hab
  obtain ⟨a0, a1, a2, a3, a4, a5, a6, a7, a8⟩ := row9 (HA.out.at HK0.out)
  clear a1 a2 a3 a4 a5 a6 a7 a8
  go_upto_region 7 with fail
  clear a0
  refine wp_region_vals (fun L vals W => AllV [some (.pointer (some ⟨gs, 0, none⟩)), some (.pointer (some ⟨ab, 4, none⟩)), some (.agg #[.int .i64 v0, .int .i64 v1]), some (.pointer (some ⟨ab, 2, none⟩)), some (.int .i64 i), some (.pointer (some ⟨ab, 6, none⟩)), some (.agg #[.int .i64 x0, .int .i64 x1]), some (.int .i64 c), some (.pointer (some ⟨gm, 0, none⟩)), some (.pointer (some ⟨ab, 4, none⟩)), some (.agg #[.int .i64 v0, .int .i64 v1]), some (.pointer (some ⟨ab, 2, none⟩)), some (.int .i64 i), some (.pointer (some ⟨ab, 6, none⟩)), some (.agg #[.int .i64 x0, .int .i64 x1]), some (.int .i64 c), some (.bool true), some (.bool true)] L vals ∧ TwoX w0 W gs gm (if L 7 then s' else s) (if L 15 then s' else s) (kadd κ ab (.cells #[.int .i64 2, .int .i64 k, .int .i64 i, .slice so l.length sc, .int .i64 v0, .int .i64 v1, .int .i64 x0, .int .i64 x1, .string t] 37))) (by kernel_rfl) ?_ (by kernel_rfl) (by kernel_rfl) ?_ ?_
  · exact ⟨AllV.start _ _, HA.out.drew⟩
  · refine AllOps.cons ?_ ?_
    · intro L vals aa W hC hB hL hD hdep
      obtain ⟨hV, hT⟩ := hC
      refine .inl ⟨rfl, ?_⟩
      have b0 : aa.tmps.getD 0 undef = .pointer (some ⟨gs, 0, none⟩) := hB.off 0 (by kernel_rfl)
      refine goesV_value (v := .pointer (some ⟨gs, 0, none⟩)) ?_ ⟨hV.fix rfl, by rw [updL_ne (show (7 : Nat) ≠ 0 by decide), updL_ne (show (15 : Nat) ≠ 0 by decide)]; exact hT⟩
      simp only [execOp, Act.eval, b0]
      go_simp
    refine AllOps.cons ?_ ?_
    · intro L vals aa W hC hB hL hD hdep
      obtain ⟨hV, hT⟩ := hC
      refine .inl ⟨rfl, ?_⟩
      have b0 : aa.tmps.getD 5 undef = .pointer (some ⟨ab, 0, none⟩) := hB.off 5 (by kernel_rfl)
      refine goesV_value (v := .pointer (some ⟨ab, 4, none⟩)) ?_ ⟨hV.fix rfl, by rw [updL_ne (show (7 : Nat) ≠ 1 by decide), updL_ne (show (15 : Nat) ≠ 1 by decide)]; exact hT⟩
      simp only [execOp, Act.eval, b0]
      go_simp
    refine AllOps.cons ?_ ?_
    · intro L vals aa W hC hB hL hD hdep
      obtain ⟨hV, hT⟩ := hC
      refine .inl ⟨rfl, ?_⟩
      have e0 : aa.tmps.getD 67 undef = .pointer (some ⟨ab, 4, none⟩) := hV.at (j := 1) rfl (hdep 1 67 (by kernel_rfl))
      obtain ⟨a0, a1, a2, a3, a4, a5, a6, a7, a8⟩ := row9 (hT.at HK0.out)
      refine goesV_value (v := .agg #[.int .i64 v0, .int .i64 v1]) ?_ ⟨hV.fix rfl, by rw [updL_ne (show (7 : Nat) ≠ 2 by decide), updL_ne (show (15 : Nat) ≠ 2 by decide)]; exact hT⟩
      simp only [execOp, Act.eval, e0]
      go_simp
    refine AllOps.cons ?_ ?_
    · intro L vals aa W hC hB hL hD hdep
      obtain ⟨hV, hT⟩ := hC
      refine .inl ⟨rfl, ?_⟩
      have b0 : aa.tmps.getD 5 undef = .pointer (some ⟨ab, 0, none⟩) := hB.off 5 (by kernel_rfl)
      refine goesV_value (v := .pointer (some ⟨ab, 2, none⟩)) ?_ ⟨hV.fix rfl, by rw [updL_ne (show (7 : Nat) ≠ 3 by decide), updL_ne (show (15 : Nat) ≠ 3 by decide)]; exact hT⟩
      simp only [execOp, Act.eval, b0]
      go_simp
    refine AllOps.cons ?_ ?_
    · intro L vals aa W hC hB hL hD hdep
      obtain ⟨hV, hT⟩ := hC
      refine .inl ⟨rfl, ?_⟩
      have e0 : aa.tmps.getD 69 undef = .pointer (some ⟨ab, 2, none⟩) := hV.at (j := 3) rfl (hdep 3 69 (by kernel_rfl))
      obtain ⟨a0, a1, a2, a3, a4, a5, a6, a7, a8⟩ := row9 (hT.at HK0.out)
      refine goesV_value (v := .int .i64 i) ?_ ⟨hV.fix rfl, by rw [updL_ne (show (7 : Nat) ≠ 4 by decide), updL_ne (show (15 : Nat) ≠ 4 by decide)]; exact hT⟩
      simp only [execOp, Act.eval, e0]
      go_simp
    refine AllOps.cons ?_ ?_
    · intro L vals aa W hC hB hL hD hdep
      obtain ⟨hV, hT⟩ := hC
      refine .inl ⟨rfl, ?_⟩
      have b0 : aa.tmps.getD 5 undef = .pointer (some ⟨ab, 0, none⟩) := hB.off 5 (by kernel_rfl)
      refine goesV_value (v := .pointer (some ⟨ab, 6, none⟩)) ?_ ⟨hV.fix rfl, by rw [updL_ne (show (7 : Nat) ≠ 5 by decide), updL_ne (show (15 : Nat) ≠ 5 by decide)]; exact hT⟩
      simp only [execOp, Act.eval, b0]
      go_simp
    refine AllOps.cons ?_ ?_
    · intro L vals aa W hC hB hL hD hdep
      obtain ⟨hV, hT⟩ := hC
      refine .inl ⟨rfl, ?_⟩
      have e0 : aa.tmps.getD 71 undef = .pointer (some ⟨ab, 6, none⟩) := hV.at (j := 5) rfl (hdep 5 71 (by kernel_rfl))
      obtain ⟨a0, a1, a2, a3, a4, a5, a6, a7, a8⟩ := row9 (hT.at HK0.out)
      refine goesV_value (v := .agg #[.int .i64 x0, .int .i64 x1]) ?_ ⟨hV.fix rfl, by rw [updL_ne (show (7 : Nat) ≠ 6 by decide), updL_ne (show (15 : Nat) ≠ 6 by decide)]; exact hT⟩
      simp only [execOp, Act.eval, e0]
      go_simp
    refine AllOps.cons ?_ ?_
    · intro L vals aa W hC hB hL hD hdep
      obtain ⟨hV, hT⟩ := hC
      refine .inl ⟨rfl, ?_⟩
      have e0 : aa.tmps.getD 66 undef = .pointer (some ⟨gs, 0, none⟩) := hV.at (j := 0) rfl (hdep 0 66 (by kernel_rfl))
      have e1 : aa.tmps.getD 68 undef = .agg #[.int .i64 v0, .int .i64 v1] := hV.at (j := 2) rfl (hdep 2 68 (by kernel_rfl))
      have e2 : aa.tmps.getD 70 undef = .int .i64 i := hV.at (j := 4) rfl (hdep 4 70 (by kernel_rfl))
      have e3 : aa.tmps.getD 72 undef = .agg #[.int .i64 x0, .int .i64 x1] := hV.at (j := 6) rfl (hdep 6 72 (by kernel_rfl))
      rw [hL] at hT
      simp only [Bool.false_eq_true, if_false] at hT
      obtain ⟨R, hst, _, _, hgo⟩ := hT.sstep
      have hcc := stset_any gs R s (v0, v1) i (x0, x1) W hst
      simp only [vV] at hcc
      rw [HCS.out] at hcc
      refine goesV_call (f := 15) (args := #[.pointer (some ⟨gs, 0, none⟩), .agg #[.int .i64 v0, .int .i64 v1], .int .i64 i, .agg #[.int .i64 x0, .int .i64 x1]]) ?_ ?_
      · simp only [execOp]
        go_simp
      · exact hcc.mono fun e w7 ⟨he, hp⟩ => ⟨_, he, hV.fix rfl, by rw [updL_self, updL_ne (show (15 : Nat) ≠ 7 by decide)]; simp only [if_true]; exact hgo _ _ hp⟩
    refine AllOps.cons ?_ ?_
    · intro L vals aa W hC hB hL hD hdep
      obtain ⟨hV, hT⟩ := hC
      refine .inl ⟨rfl, ?_⟩
      have b0 : aa.tmps.getD 1 undef = .pointer (some ⟨gm, 0, none⟩) := hB.off 1 (by kernel_rfl)
      refine goesV_value (v := .pointer (some ⟨gm, 0, none⟩)) ?_ ⟨hV.fix rfl, by rw [updL_ne (show (7 : Nat) ≠ 8 by decide), updL_ne (show (15 : Nat) ≠ 8 by decide)]; exact hT⟩
      simp only [execOp, Act.eval, b0]
      go_simp
    refine AllOps.cons ?_ ?_
    · intro L vals aa W hC hB hL hD hdep
      obtain ⟨hV, hT⟩ := hC
      refine .inl ⟨rfl, ?_⟩
      have b0 : aa.tmps.getD 5 undef = .pointer (some ⟨ab, 0, none⟩) := hB.off 5 (by kernel_rfl)
      refine goesV_value (v := .pointer (some ⟨ab, 4, none⟩)) ?_ ⟨hV.fix rfl, by rw [updL_ne (show (7 : Nat) ≠ 9 by decide), updL_ne (show (15 : Nat) ≠ 9 by decide)]; exact hT⟩
      simp only [execOp, Act.eval, b0]
      go_simp
    refine AllOps.cons ?_ ?_
    · intro L vals aa W hC hB hL hD hdep
      obtain ⟨hV, hT⟩ := hC
      refine .inl ⟨rfl, ?_⟩
      have e0 : aa.tmps.getD 75 undef = .pointer (some ⟨ab, 4, none⟩) := hV.at (j := 9) rfl (hdep 9 75 (by kernel_rfl))
      obtain ⟨a0, a1, a2, a3, a4, a5, a6, a7, a8⟩ := row9 (hT.at HK0.out)
      refine goesV_value (v := .agg #[.int .i64 v0, .int .i64 v1]) ?_ ⟨hV.fix rfl, by rw [updL_ne (show (7 : Nat) ≠ 10 by decide), updL_ne (show (15 : Nat) ≠ 10 by decide)]; exact hT⟩
      simp only [execOp, Act.eval, e0]
      go_simp
    refine AllOps.cons ?_ ?_
    · intro L vals aa W hC hB hL hD hdep
      obtain ⟨hV, hT⟩ := hC
      refine .inl ⟨rfl, ?_⟩
      have b0 : aa.tmps.getD 5 undef = .pointer (some ⟨ab, 0, none⟩) := hB.off 5 (by kernel_rfl)
      refine goesV_value (v := .pointer (some ⟨ab, 2, none⟩)) ?_ ⟨hV.fix rfl, by rw [updL_ne (show (7 : Nat) ≠ 11 by decide), updL_ne (show (15 : Nat) ≠ 11 by decide)]; exact hT⟩
      simp only [execOp, Act.eval, b0]
      go_simp
    refine AllOps.cons ?_ ?_
    · intro L vals aa W hC hB hL hD hdep
      obtain ⟨hV, hT⟩ := hC
      refine .inl ⟨rfl, ?_⟩
      have e0 : aa.tmps.getD 77 undef = .pointer (some ⟨ab, 2, none⟩) := hV.at (j := 11) rfl (hdep 11 77 (by kernel_rfl))
      obtain ⟨a0, a1, a2, a3, a4, a5, a6, a7, a8⟩ := row9 (hT.at HK0.out)
      refine goesV_value (v := .int .i64 i) ?_ ⟨hV.fix rfl, by rw [updL_ne (show (7 : Nat) ≠ 12 by decide), updL_ne (show (15 : Nat) ≠ 12 by decide)]; exact hT⟩
      simp only [execOp, Act.eval, e0]
      go_simp
    refine AllOps.cons ?_ ?_
    · intro L vals aa W hC hB hL hD hdep
      obtain ⟨hV, hT⟩ := hC
      refine .inl ⟨rfl, ?_⟩
      have b0 : aa.tmps.getD 5 undef = .pointer (some ⟨ab, 0, none⟩) := hB.off 5 (by kernel_rfl)
      refine goesV_value (v := .pointer (some ⟨ab, 6, none⟩)) ?_ ⟨hV.fix rfl, by rw [updL_ne (show (7 : Nat) ≠ 13 by decide), updL_ne (show (15 : Nat) ≠ 13 by decide)]; exact hT⟩
      simp only [execOp, Act.eval, b0]
      go_simp
    refine AllOps.cons ?_ ?_
    · intro L vals aa W hC hB hL hD hdep
      obtain ⟨hV, hT⟩ := hC
      refine .inl ⟨rfl, ?_⟩
      have e0 : aa.tmps.getD 79 undef = .pointer (some ⟨ab, 6, none⟩) := hV.at (j := 13) rfl (hdep 13 79 (by kernel_rfl))
      obtain ⟨a0, a1, a2, a3, a4, a5, a6, a7, a8⟩ := row9 (hT.at HK0.out)
      refine goesV_value (v := .agg #[.int .i64 x0, .int .i64 x1]) ?_ ⟨hV.fix rfl, by rw [updL_ne (show (7 : Nat) ≠ 14 by decide), updL_ne (show (15 : Nat) ≠ 14 by decide)]; exact hT⟩
      simp only [execOp, Act.eval, e0]
      go_simp
    refine AllOps.cons ?_ ?_
    · intro L vals aa W hC hB hL hD hdep
      obtain ⟨hV, hT⟩ := hC
      refine .inl ⟨rfl, ?_⟩
      have e0 : aa.tmps.getD 74 undef = .pointer (some ⟨gm, 0, none⟩) := hV.at (j := 8) rfl (hdep 8 74 (by kernel_rfl))
      have e1 : aa.tmps.getD 76 undef = .agg #[.int .i64 v0, .int .i64 v1] := hV.at (j := 10) rfl (hdep 10 76 (by kernel_rfl))
      have e2 : aa.tmps.getD 78 undef = .int .i64 i := hV.at (j := 12) rfl (hdep 12 78 (by kernel_rfl))
      have e3 : aa.tmps.getD 80 undef = .agg #[.int .i64 x0, .int .i64 x1] := hV.at (j := 14) rfl (hdep 14 80 (by kernel_rfl))
      rw [hL] at hT
      simp only [Bool.false_eq_true, if_false] at hT
      obtain ⟨R, hst, _, _, hgo⟩ := hT.rstep
      have hcc := rset_any gm R s (v0, v1) i (x0, x1) W hst HG.out.kd
      skip
      rw [HCS.out] at hcc
      refine goesV_call (f := 30) (args := #[.pointer (some ⟨gm, 0, none⟩), .agg #[.int .i64 v0, .int .i64 v1], .int .i64 i, .agg #[.int .i64 x0, .int .i64 x1]]) ?_ ?_
      · simp only [execOp]
        go_simp
      · exact hcc.mono fun e w7 ⟨he, hp⟩ => ⟨_, he, hV.fix rfl, by rw [updL_self, updL_ne (show (7 : Nat) ≠ 15 by decide)]; simp only [if_true]; exact hgo _ _ hp⟩
    refine AllOps.cons ?_ ?_
    · intro L vals aa W hC hB hL hD hdep
      obtain ⟨hV, hT⟩ := hC
      refine .inl ⟨rfl, ?_⟩
      have e0 : aa.tmps.getD 73 undef = .int .i64 c := hV.at (j := 7) rfl (hdep 7 73 (by kernel_rfl))
      have e1 : aa.tmps.getD 81 undef = .int .i64 c := hV.at (j := 15) rfl (hdep 15 81 (by kernel_rfl))
      refine goesV_value (v := .bool true) ?_ ⟨hV.fix rfl, by rw [updL_ne (show (7 : Nat) ≠ 16 by decide), updL_ne (show (15 : Nat) ≠ 16 by decide)]; exact hT⟩
      simp only [execOp, Act.eval, e0, e1]
      go_simp
    refine AllOps.cons ?_ ?_
    · intro L vals aa W hC hB hL hD hdep
      obtain ⟨hV, hT⟩ := hC
      refine .inl ⟨rfl, ?_⟩
      have e0 : aa.tmps.getD 82 undef = .bool true := hV.at (j := 16) rfl (hdep 16 82 (by kernel_rfl))
      refine goesV_value (v := .bool true) ?_ ⟨hV.fix rfl, by rw [updL_ne (show (7 : Nat) ≠ 17 by decide), updL_ne (show (15 : Nat) ≠ 17 by decide)]; exact hT⟩
      simp only [execOp, Act.eval, e0]
      go_simp
    exact trivial
  · intro L vals aa w8 hC hLL hB hall
    obtain ⟨hV, hT⟩ := hC
    rw [hLL 7 (Nat.le_of_ble_eq_true rfl), hLL 15 (Nat.le_of_ble_eq_true rfl)] at hT
    simp only [if_true] at hT
    have hv : ∀ p ∈ [((66 : Nat), (.pointer (some ⟨gs, 0, none⟩) : Value)), ((67 : Nat), (.pointer (some ⟨ab, 4, none⟩) : Value)), ((68 : Nat), (.agg #[.int .i64 v0, .int .i64 v1] : Value)), ((69 : Nat), (.pointer (some ⟨ab, 2, none⟩) : Value)), ((70 : Nat), (.int .i64 i : Value)), ((71 : Nat), (.pointer (some ⟨ab, 6, none⟩) : Value)), ((72 : Nat), (.agg #[.int .i64 x0, .int .i64 x1] : Value)), ((73 : Nat), (.int .i64 c : Value)), ((74 : Nat), (.pointer (some ⟨gm, 0, none⟩) : Value)), ((75 : Nat), (.pointer (some ⟨ab, 4, none⟩) : Value)), ((76 : Nat), (.agg #[.int .i64 v0, .int .i64 v1] : Value)), ((77 : Nat), (.pointer (some ⟨ab, 2, none⟩) : Value)), ((78 : Nat), (.int .i64 i : Value)), ((79 : Nat), (.pointer (some ⟨ab, 6, none⟩) : Value)), ((80 : Nat), (.agg #[.int .i64 x0, .int .i64 x1] : Value)), ((81 : Nat), (.int .i64 c : Value)), ((82 : Nat), (.bool true : Value)), ((6 : Nat), (.bool true : Value))], aa.tmps.getD p.1 undef = p.2 := by
      intro p hp
      simp only [List.mem_cons, List.not_mem_nil, or_false] at hp
      rcases hp with rfl | rfl | rfl | rfl | rfl | rfl | rfl | rfl | rfl | rfl | rfl | rfl | rfl | rfl | rfl | rfl | rfl | rfl
      · exact (hall 0 _ rfl _ rfl).trans (hV 0 _ rfl (hLL 0 (Nat.le_of_ble_eq_true rfl)))
      · exact (hall 1 _ rfl _ rfl).trans (hV 1 _ rfl (hLL 1 (Nat.le_of_ble_eq_true rfl)))
      · exact (hall 2 _ rfl _ rfl).trans (hV 2 _ rfl (hLL 2 (Nat.le_of_ble_eq_true rfl)))
      · exact (hall 3 _ rfl _ rfl).trans (hV 3 _ rfl (hLL 3 (Nat.le_of_ble_eq_true rfl)))
      · exact (hall 4 _ rfl _ rfl).trans (hV 4 _ rfl (hLL 4 (Nat.le_of_ble_eq_true rfl)))
      · exact (hall 5 _ rfl _ rfl).trans (hV 5 _ rfl (hLL 5 (Nat.le_of_ble_eq_true rfl)))
      · exact (hall 6 _ rfl _ rfl).trans (hV 6 _ rfl (hLL 6 (Nat.le_of_ble_eq_true rfl)))
      · exact (hall 7 _ rfl _ rfl).trans (hV 7 _ rfl (hLL 7 (Nat.le_of_ble_eq_true rfl)))
      · exact (hall 8 _ rfl _ rfl).trans (hV 8 _ rfl (hLL 8 (Nat.le_of_ble_eq_true rfl)))
      · exact (hall 9 _ rfl _ rfl).trans (hV 9 _ rfl (hLL 9 (Nat.le_of_ble_eq_true rfl)))
      · exact (hall 10 _ rfl _ rfl).trans (hV 10 _ rfl (hLL 10 (Nat.le_of_ble_eq_true rfl)))
      · exact (hall 11 _ rfl _ rfl).trans (hV 11 _ rfl (hLL 11 (Nat.le_of_ble_eq_true rfl)))
      · exact (hall 12 _ rfl _ rfl).trans (hV 12 _ rfl (hLL 12 (Nat.le_of_ble_eq_true rfl)))
      · exact (hall 13 _ rfl _ rfl).trans (hV 13 _ rfl (hLL 13 (Nat.le_of_ble_eq_true rfl)))
      · exact (hall 14 _ rfl _ rfl).trans (hV 14 _ rfl (hLL 14 (Nat.le_of_ble_eq_true rfl)))
      · exact (hall 15 _ rfl _ rfl).trans (hV 15 _ rfl (hLL 15 (Nat.le_of_ble_eq_true rfl)))
      · exact (hall 16 _ rfl _ rfl).trans (hV 16 _ rfl (hLL 16 (Nat.le_of_ble_eq_true rfl)))
      · exact (hall 17 _ rfl _ rfl).trans (hV 17 _ rfl (hLL 17 (Nat.le_of_ble_eq_true rfl)))
    have hact := act_fold _ hB hv (by kernel_rfl)
    subst hact
    have HT := Lib.hid hT
    clear hv hall hB hV hLL hT
    refine (‹∀ (a : Act) (w : World), Code.wp Try.prog _ _ a w → _›) _ w8 ?_
    simp only [List.foldl, List.setIfInBounds_toArray, List.set_cons_succ, List.set_cons_zero]
    go_wp2_with fail
    go_ret
    exact ⟨rfl, _, (HT.out.sub fun b o hk => kadd_old hk (HSUB.out b o hk)), HGD.out⟩


/-- While a Make is under way: the row that was copied for it, the box of its answer. -/
structure MkI (w0 : World) (gs gm : Nat) (s s' : St) (l : List (Int × Int)) (r0 r1 : Int) (κ : Nat → Option Obj) (L : Nat → Bool) (vals : Nat → Value) (W : World) : Prop where
  ex : ∃ κ', (∀ b o, κ b = some o → κ' b = some o) ∧ TwoX w0 W gs gm (if L 6 then s' else s) s κ' ∧ (L 5 = true → L 6 = false → ∀ W' : World, (∀ b o, κ' b = some o → W'.heap[b]? = some o) → RowV W' (vals 5) l.length 2 (vcs l)) ∧
    (L 10 = true → ∃ b, vals 10 = .pointer (some ⟨b, 0, none⟩) ∧ κ b = none ∧ κ' b = some (.cells (if L 11 then #[.int .i64 r0, .int .i64 r1] else #[.int .i64 0, .int .i64 0]) 35 (0, 0)))
  o11 : L 11 = true → L 10 = true
  o8 : L 8 = true → L 7 = true
  o7 : L 7 = true → L 6 = true
section
variable {w0 W W' : World} {gs gm : Nat} {s s' : St} {l : List (Int × Int)} {r0 r1 : Int} {κ : Nat → Option Obj} {L : Nat → Bool} {vals : Nat → Value}
theorem MkI.start (h : TwoX w0 W gs gm s s κ) : MkI w0 gs gm s s' l r0 r1 κ (fun _ => false) (fun _ => undef) W :=
  ⟨⟨κ, fun _ _ h => h, h, fun h => (by cases h), fun h => (by cases h)⟩, fun h => (by cases h), fun h => (by cases h), fun h => (by cases h)⟩
theorem MkI.at (h : MkI w0 gs gm s s' l r0 r1 κ L vals W) {b : Nat} {o : Obj} (hk : κ b = some o) : W.heap[b]? = some o := by
  obtain ⟨κ', h1, h2, _⟩ := h.ex
  exact h2.at (h1 b o hk)
theorem MkI.idle (h : MkI w0 gs gm s s' l r0 r1 κ L vals W) {i : Nat} (hi : i ≠ 5 ∧ i ≠ 6 ∧ i ≠ 10 ∧ i ≠ 11) (h7 : i = 7 → L 6 = true) (h8 : i = 8 → L 7 = true) (v : Value) : MkI w0 gs gm s s' l r0 r1 κ (updL L i) (updV vals i v) W := by
  obtain ⟨⟨κ', h1, h2, h3, h4⟩, h5, h6, h9⟩ := h
  refine ⟨⟨κ', h1, ?_, ?_, ?_⟩, ?_, ?_, ?_⟩
  · rw [updL_ne (Ne.symm hi.2.1)]; exact h2
  · rw [updL_ne (Ne.symm hi.1), updL_ne (Ne.symm hi.2.1), updV_ne (Ne.symm hi.1)]; exact h3
  · rw [updL_ne (Ne.symm hi.2.2.1), updL_ne (Ne.symm hi.2.2.2), updV_ne (Ne.symm hi.2.2.1)]; exact h4
  · rw [updL_ne (Ne.symm hi.2.2.1), updL_ne (Ne.symm hi.2.2.2)]; exact h5
  · intro h
    by_cases e : (8 : Nat) = i
    · subst e
      rw [updL_ne (by decide)]
      exact h8 rfl
    · rw [updL_ne e] at h
      by_cases e7 : (7 : Nat) = i
      · subst e7; exact updL_self _ _
      · rw [updL_ne e7]; exact h6 h
  · intro h
    rw [updL_ne (Ne.symm hi.2.1)]
    by_cases e : (7 : Nat) = i
    · exact h7 e.symm
    · rw [updL_ne e] at h; exact h9 h
theorem MkI.own (h : MkI w0 gs gm s s' l r0 r1 κ L vals W) (hl6 : L 6 = false) (hb : Below W.heap.size W W') {v : Value} (hown : W'.ownsRow W.heap.size 35 2 v l.length (vcs l)) : MkI w0 gs gm s s' l r0 r1 κ (updL L 5) (updV vals 5 v) W' := by
  obtain ⟨⟨κ', h1, h2, h3, h4⟩, h5, h6, h9⟩ := h
  rcases (RowV.of_own hown).boxed with ⟨_, hW⟩ | ⟨b, o, hv, ho, hW⟩
  · refine ⟨⟨κ', h1, ?_, fun _ _ W'' _ => ?_, ?_⟩, ?_, ?_, ?_⟩
    · rw [updL_ne (by decide)]; exact h2.below hb
    · rw [updV_self]; exact hW W''
    · rw [updL_ne (by decide), updL_ne (by decide), updV_ne (by decide)]; exact h4
    · rw [updL_ne (by decide), updL_ne (by decide)]; exact h5
    · rw [updL_ne (by decide), updL_ne (by decide)]; exact h6
    · rw [updL_ne (by decide), updL_ne (by decide)]; exact h9
  · have hge := (hown.lt b hv).1
    have hne : ∀ b' o', κ' b' = some o' → b' ≠ b := fun b' o' hk e => h2.new hk (by omega)
    refine ⟨⟨kadd κ' b o, fun b' o' hk => kadd_old (h1 b' o' hk) (hne b' o' (h1 b' o' hk)), ?_, fun _ _ W'' hW' => ?_, fun hl => ?_⟩, ?_, ?_, ?_⟩
    · rw [updL_ne (by decide)]; exact h2.grow hb hge ho
    · rw [updV_self]; exact hW W'' (hW' b o kadd_self)
    · rw [updL_ne (by decide)] at hl
      obtain ⟨b1, e1, e2, e3⟩ := h4 hl
      rw [updL_ne (by decide), updV_ne (by decide)]
      exact ⟨b1, e1, e2, kadd_old e3 (hne b1 _ e3)⟩
    · rw [updL_ne (by decide), updL_ne (by decide)]; exact h5
    · rw [updL_ne (by decide), updL_ne (by decide)]; exact h6
    · rw [updL_ne (by decide), updL_ne (by decide)]; exact h9
theorem MkI.alloc (h : MkI w0 gs gm s s' l r0 r1 κ L vals W) (hl : L 11 = false) : MkI w0 gs gm s s' l r0 r1 κ (updL L 10) (updV vals 10 (.pointer (some ⟨W.heap.size, 0, none⟩))) (W.alloc (.cells #[.int .i64 0, .int .i64 0] 35)) := by
  obtain ⟨⟨κ', h1, h2, h3, h4⟩, h5, h6, h9⟩ := h
  have hne : ∀ b' o', κ' b' = some o' → b' ≠ W.heap.size := fun b' o' hk e => h2.new hk (by omega)
  refine ⟨⟨kadd κ' W.heap.size (.cells #[.int .i64 0, .int .i64 0] 35), fun b' o' hk => kadd_old (h1 b' o' hk) (hne b' o' (h1 b' o' hk)), ?_, fun hl5 hl6 W'' hW' => ?_, fun _ => ⟨W.heap.size, updV_self _ _ _, ?_, ?_⟩⟩, ?_, ?_, ?_⟩
  · rw [updL_ne (by decide)]; exact h2.alloc _
  · rw [updL_ne (by decide)] at hl5 hl6
    rw [updV_ne (by decide)]
    exact h3 hl5 hl6 W'' fun b' o' hk => hW' b' o' (kadd_old hk (hne b' o' hk))
  · cases hk : κ W.heap.size with
    | none => rfl
    | some o => exact absurd rfl (hne _ o (h1 _ o hk))
  · rw [updL_ne (by decide), hl, kadd_self]; rfl
  · intro _; exact updL_self _ _
  · rw [updL_ne (by decide), updL_ne (by decide)]; exact h6
  · rw [updL_ne (by decide), updL_ne (by decide)]; exact h9
theorem MkI.store (h : MkI w0 gs gm s s' l r0 r1 κ L vals W) (hl : L 11 = false) (hl10 : L 10 = true) (hl8 : L 8 = true) {b : Nat} (hb : vals 10 = .pointer (some ⟨b, 0, none⟩)) (v : Value) : MkI w0 gs gm s s' l r0 r1 κ (updL L 11) (updV vals 11 v) ((W.setCell ⟨b, 0, none⟩ (.int .i64 r0)).setCell ⟨b, 1, none⟩ (.int .i64 r1)) := by
  obtain ⟨⟨κ', h1, h2, h3, h4⟩, h5, h6, h9⟩ := h
  obtain ⟨b1, e1, e2, e3⟩ := h4 hl10
  rw [hb] at e1
  injection e1 with e1
  injection e1 with e1
  injection e1 with e1
  subst e1
  rw [hl] at e3
  simp only [Bool.false_eq_true, if_false] at e3
  have hl6 := h9 (h6 hl8)
  refine ⟨⟨kadd (kadd κ' b (.cells #[.int .i64 r0, .int .i64 0] 35 (0, 0))) b (.cells #[.int .i64 r0, .int .i64 r1] 35 (0, 0)), fun b' o' hk => kadd_old (kadd_old (h1 b' o' hk) (fun e => by rw [e, e2] at hk; cases hk)) (fun e => by rw [e, e2] at hk; cases hk), ?_, fun hl5 hl6' => ?_, fun _ => ⟨b, ?_, e2, ?_⟩⟩, ?_, ?_, ?_⟩
  · rw [updL_ne (by decide)]; exact (h2.put e3 0 (.int .i64 r0)).put kadd_self 1 (.int .i64 r1)
  · rw [updL_ne (by decide), hl6] at hl6'; cases hl6'
  · rw [updV_ne (by decide)]; exact hb
  · rw [updL_self, kadd_self]; rfl
  · rw [updL_ne (show (10 : Nat) ≠ 11 by decide)]; exact fun _ => hl10
  · rw [updL_ne (by decide), updL_ne (by decide)]; exact h6
  · rw [updL_ne (by decide), updL_ne (by decide)]; exact h9
theorem MkI.make (h : MkI w0 gs gm s s' l r0 r1 κ L vals W) (hl : L 6 = false) (hl5 : L 5 = true) : ∃ R, StW W gs R s ∧ RowV W (vals 5) l.length 2 (vcs l) ∧ ∀ w' v, StP W gs R s' w' → MkI w0 gs gm s s' l r0 r1 κ (updL L 6) (updV vals 6 v) w' := by
  obtain ⟨⟨κ', h1, h2, h3, h4⟩, h5, h6, h9⟩ := h
  have hr := h3 hl5 hl W fun b o hk => h2.at hk
  rw [hl] at h2
  simp only [Bool.false_eq_true, if_false] at h2
  obtain ⟨R, hst, _, _, hgo⟩ := h2.sstep
  refine ⟨R, hst, hr, fun w' v hp => ⟨⟨κ', h1, ?_, fun _ hl6 => ?_, ?_⟩, ?_, ?_, fun _ => updL_self _ _⟩⟩
  · rw [updL_self]; exact hgo _ _ hp
  · rw [updL_self] at hl6; cases hl6
  · rw [updL_ne (by decide), updL_ne (by decide), updV_ne (by decide)]; exact h4
  · rw [updL_ne (by decide), updL_ne (by decide)]; exact h5
  · rw [updL_ne (by decide), updL_ne (by decide)]; exact h6
end


set_option maxRecDepth 100000 in
set_option maxHeartbeats 8000000 in
theorem act1_any (w0 w : World) (gs gm : Nat) (s : St) (n : Nat) (κ : Nat → Option Obj) (d k i : Int) (sv : Value) (l : List (Int × Int)) (v x : Int × Int) (t : ByteArray) (h : TwoX w0 w gs gm s s κ) (hg : Gd s n) (hn : n < 1000) (hr : RowV w0 sv l.length 2 (vcs l)) (hl : l.length ≤ 100) (ht : t.size ≤ 140737488355328) (hd : d = 1) :
    Calls Try.prog 9 #[.pointer (some ⟨gs, 0, none⟩), .pointer (some ⟨gm, 0, none⟩), .agg #[.int .i64 d, .int .i64 k, .int .i64 i, sv, .int .i64 v.1, .int .i64 v.2, .int .i64 x.1, .int .i64 x.2, .string t]] w fun e w' => e = .returned (.bool true) ∧ ∃ s', TwoX w0 w' gs gm s' s' κ ∧ Gd s' (n + 1) := by
  subst hd
  obtain ⟨so, sc, rfl⟩ := rowv_slice hr
  obtain ⟨v0, v1⟩ := v
  obtain ⟨x0, x1⟩ := x
  simp only
  have HG := Lib.hid hg
  have HR := Lib.hid hr
  have HLT := Lib.hid (And.intro hn (And.intro hl ht))
  have HSUB : Hid (∀ b o, κ b = some o → b ≠ w.heap.size) := Lib.hid fun b o hk e => h.new hk (by omega)
  have HA := Lib.hid (h.alloc (.cells #[.int .i64 1, .int .i64 k, .int .i64 i, .slice so l.length sc, .int .i64 v0, .int .i64 v1, .int .i64 x0, .int .i64 x1, .string t] 37))
  have HK0 : Hid (kadd κ w.heap.size (.cells #[.int .i64 1, .int .i64 k, .int .i64 i, .slice so l.length sc, .int .i64 v0, .int .i64 v1, .int .i64 x0, .int .i64 x1, .string t] 37) w.heap.size = some (.cells #[.int .i64 1, .int .i64 k, .int .i64 i, .slice so l.length sc, .int .i64 v0, .int .i64 v1, .int .i64 x0, .int .i64 x1, .string t] 37)) := Lib.hid kadd_self
  clear h hg hr hl ht hn
  obtain ⟨r, s', hcs⟩ : ∃ r s', s.make k l = (r, s') := ⟨_, _, rfl⟩
  have HGD : Hid (Gd s' (n + 1)) := Lib.hid (by have := HG.out.make k l; rw [hcs] at this; exact this)
  have HCS := Lib.hid hcs
  clear hcs
  obtain ⟨⟨r0, r1⟩, r2⟩ := r
  go_enter Try.func9, Try.ntmps9
  go_upto_region 1 with fail
  generalize w.alloc (.cells #[.int .i64 1, .int .i64 k, .int .i64 i, .slice so l.length sc, .int .i64 v0, .int .i64 v1, .int .i64 x0, .int .i64 x1, .string t] 37) = w1 at *
  generalize hab : w.heap.size = ab at *
  clear hab
  obtain ⟨a0, a1, a2, a3, a4, a5, a6, a7, a8⟩ := row9 (HA.out.at HK0.out)
  clear a1 a2 a3 a4 a5 a6 a7 a8
  go_upto_region 3 with fail
  clear a0
  refine wp_region_vals (fun L vals W => AllV [some (.pointer (some ⟨gs, 0, none⟩)), some (.pointer (some ⟨ab, 1, none⟩)), some (.int .i64 k), some (.pointer (some ⟨ab, 3, none⟩)), some (.slice so l.length sc), none, some (.tuple #[.agg #[.int .i64 r0, .int .i64 r1], .int .i64 r2]), some (.tuple #[.agg #[.int .i64 r0, .int .i64 r1], .int .i64 r2]), some (.agg #[.int .i64 r0, .int .i64 r1]), some (.int .i64 r2), none, none, some (.int .i64 r2)] L vals ∧ MkI w0 gs gm s s' l r0 r1 (kadd κ ab (.cells #[.int .i64 1, .int .i64 k, .int .i64 i, .slice so l.length sc, .int .i64 v0, .int .i64 v1, .int .i64 x0, .int .i64 x1, .string t] 37)) L vals W) (by kernel_rfl) ?_ (by kernel_rfl) (by kernel_rfl) ?_ ?_
  · exact ⟨AllV.start _ _, MkI.start HA.out.drew⟩
  · refine AllOps.cons ?_ ?_
    · intro L vals aa W hC hB hL hD hdep
      obtain ⟨hV, hT⟩ := hC
      refine .inl ⟨rfl, ?_⟩
      have b0 : aa.tmps.getD 0 undef = .pointer (some ⟨gs, 0, none⟩) := hB.off 0 (by kernel_rfl)
      refine goesV_value (v := .pointer (some ⟨gs, 0, none⟩)) ?_ ⟨hV.fix rfl, hT.idle (by decide) (fun e => absurd e (by decide)) (fun e => absurd e (by decide)) _⟩
      simp only [execOp, Act.eval, b0]
      go_simp
    refine AllOps.cons ?_ ?_
    · intro L vals aa W hC hB hL hD hdep
      obtain ⟨hV, hT⟩ := hC
      refine .inl ⟨rfl, ?_⟩
      have b0 : aa.tmps.getD 5 undef = .pointer (some ⟨ab, 0, none⟩) := hB.off 5 (by kernel_rfl)
      refine goesV_value (v := .pointer (some ⟨ab, 1, none⟩)) ?_ ⟨hV.fix rfl, hT.idle (by decide) (fun e => absurd e (by decide)) (fun e => absurd e (by decide)) _⟩
      simp only [execOp, Act.eval, b0]
      go_simp
    refine AllOps.cons ?_ ?_
    · intro L vals aa W hC hB hL hD hdep
      obtain ⟨hV, hT⟩ := hC
      refine .inl ⟨rfl, ?_⟩
      have e0 : aa.tmps.getD 39 undef = .pointer (some ⟨ab, 1, none⟩) := hV.at (j := 1) rfl (hdep 1 39 (by kernel_rfl))
      obtain ⟨a0, a1, a2, a3, a4, a5, a6, a7, a8⟩ := row9 (hT.at HK0.out)
      refine goesV_value (v := .int .i64 k) ?_ ⟨hV.fix rfl, hT.idle (by decide) (fun e => absurd e (by decide)) (fun e => absurd e (by decide)) _⟩
      simp only [execOp, Act.eval, e0]
      go_simp
    refine AllOps.cons ?_ ?_
    · intro L vals aa W hC hB hL hD hdep
      obtain ⟨hV, hT⟩ := hC
      refine .inl ⟨rfl, ?_⟩
      have b0 : aa.tmps.getD 5 undef = .pointer (some ⟨ab, 0, none⟩) := hB.off 5 (by kernel_rfl)
      refine goesV_value (v := .pointer (some ⟨ab, 3, none⟩)) ?_ ⟨hV.fix rfl, hT.idle (by decide) (fun e => absurd e (by decide)) (fun e => absurd e (by decide)) _⟩
      simp only [execOp, Act.eval, b0]
      go_simp
    refine AllOps.cons ?_ ?_
    · intro L vals aa W hC hB hL hD hdep
      obtain ⟨hV, hT⟩ := hC
      refine .inl ⟨rfl, ?_⟩
      have e0 : aa.tmps.getD 41 undef = .pointer (some ⟨ab, 3, none⟩) := hV.at (j := 3) rfl (hdep 3 41 (by kernel_rfl))
      obtain ⟨a0, a1, a2, a3, a4, a5, a6, a7, a8⟩ := row9 (hT.at HK0.out)
      refine goesV_value (v := .slice so l.length sc) ?_ ⟨hV.fix rfl, hT.idle (by decide) (fun e => absurd e (by decide)) (fun e => absurd e (by decide)) _⟩
      simp only [execOp, Act.eval, e0]
      go_simp
    refine AllOps.cons ?_ ?_
    · intro L vals aa W hC hB hL hD hdep
      obtain ⟨hV, hT⟩ := hC
      refine .inl ⟨rfl, ?_⟩
      have e0 : aa.tmps.getD 42 undef = .slice so l.length sc := hV.at (j := 4) rfl (hdep 4 42 (by kernel_rfl))
      have hl6 := hD 6 (by kernel_rfl)
      have hrw : RowV W (.slice so l.length sc) l.length 2 (vcs l) := by
        obtain ⟨_, _, h2, _⟩ := hT.ex
        exact HR.out.below h2.bel
      refine goesV_call (f := 28) (args := #[.slice so l.length sc]) ?_ ?_
      · simp only [execOp]
        go_simp
      · exact (vown_any _ l W hrw (by have := HLT.out.2.1; omega)).mono fun e w7 ⟨v', he, hown, hb⟩ => ⟨v', he, hV.free rfl, hT.own hl6 hb hown⟩
    refine AllOps.cons ?_ ?_
    · intro L vals aa W hC hB hL hD hdep
      obtain ⟨hV, hT⟩ := hC
      refine .inl ⟨rfl, ?_⟩
      have e0 : aa.tmps.getD 38 undef = .pointer (some ⟨gs, 0, none⟩) := hV.at (j := 0) rfl (hdep 0 38 (by kernel_rfl))
      have e1 : aa.tmps.getD 40 undef = .int .i64 k := hV.at (j := 2) rfl (hdep 2 40 (by kernel_rfl))
      obtain ⟨l2, e2⟩ := hdep 5 43 (by kernel_rfl)
      obtain ⟨R, hst, hrow, hgo⟩ := hT.make hL l2
      obtain ⟨vo, vc, hvv⟩ := rowv_slice hrow
      rw [hvv] at e2 hrow
      have hcc := stmake_any gs R s k (.slice vo l.length vc) l W hst hrow (by have := HLT.out.2.1; omega)
      simp only [vV] at hcc
      rw [HCS.out] at hcc
      refine goesV_call (f := 13) (args := #[.pointer (some ⟨gs, 0, none⟩), .int .i64 k, .slice vo l.length vc]) ?_ ?_
      · simp only [execOp]
        go_simp
      · exact hcc.mono fun e w7 ⟨he, hp⟩ => ⟨_, he, hV.fix rfl, hgo _ _ hp⟩
    refine AllOps.cons ?_ ?_
    · intro L vals aa W hC hB hL hD hdep
      obtain ⟨hV, hT⟩ := hC
      refine .inl ⟨rfl, ?_⟩
      have e0 : aa.tmps.getD 44 undef = .tuple #[.agg #[.int .i64 r0, .int .i64 r1], .int .i64 r2] := hV.at (j := 6) rfl (hdep 6 44 (by kernel_rfl))
      refine goesV_value (v := .tuple #[.agg #[.int .i64 r0, .int .i64 r1], .int .i64 r2]) ?_ ⟨hV.fix rfl, hT.idle (by decide) (fun _ => (hdep 6 44 (by kernel_rfl)).1) (fun e => absurd e (by decide)) _⟩
      simp only [execOp, Act.eval, e0]
      go_simp
    refine AllOps.cons ?_ ?_
    · intro L vals aa W hC hB hL hD hdep
      obtain ⟨hV, hT⟩ := hC
      refine .inl ⟨rfl, ?_⟩
      have e0 : aa.tmps.getD 37 undef = .tuple #[.agg #[.int .i64 r0, .int .i64 r1], .int .i64 r2] := hV.at (j := 7) rfl (hdep 7 37 (by kernel_rfl))
      refine goesV_value (v := .agg #[.int .i64 r0, .int .i64 r1]) ?_ ⟨hV.fix rfl, hT.idle (by decide) (fun e => absurd e (by decide)) (fun _ => (hdep 7 37 (by kernel_rfl)).1) _⟩
      simp only [execOp, Act.eval, e0]
      go_simp
    refine AllOps.cons ?_ ?_
    · intro L vals aa W hC hB hL hD hdep
      obtain ⟨hV, hT⟩ := hC
      refine .inl ⟨rfl, ?_⟩
      have e0 : aa.tmps.getD 37 undef = .tuple #[.agg #[.int .i64 r0, .int .i64 r1], .int .i64 r2] := hV.at (j := 7) rfl (hdep 7 37 (by kernel_rfl))
      refine goesV_value (v := .int .i64 r2) ?_ ⟨hV.fix rfl, hT.idle (by decide) (fun e => absurd e (by decide)) (fun e => absurd e (by decide)) _⟩
      simp only [execOp, Act.eval, e0]
      go_simp
    refine AllOps.cons ?_ ?_
    · intro L vals aa W hC hB hL hD hdep
      obtain ⟨hV, hT⟩ := hC
      refine .inl ⟨rfl, ?_⟩
      have hl11 := hD 11 (by kernel_rfl)
      refine goesV_world (v := .pointer (some ⟨W.heap.size, 0, none⟩)) (w1 := W.alloc (.cells #[.int .i64 0, .int .i64 0] 35)) ?_ ⟨hV.free rfl, hT.alloc hl11⟩
      simp only [execOp, Act.eval]
      go_simp
    refine AllOps.cons ?_ ?_
    · intro L vals aa W hC hB hL hD hdep
      obtain ⟨hV, hT⟩ := hC
      refine .inl ⟨rfl, ?_⟩
      obtain ⟨l0, e0⟩ := hdep 10 7 (by kernel_rfl)
      have e1 : aa.tmps.getD 45 undef = .agg #[.int .i64 r0, .int .i64 r1] := hV.at (j := 8) rfl (hdep 8 45 (by kernel_rfl))
      obtain ⟨b, hb, _, hkb⟩ : ∃ b, vals 10 = .pointer (some ⟨b, 0, none⟩) ∧ W.cell? ⟨b, 0, none⟩ = some (.int .i64 0) ∧ W.cell? ⟨b, 1, none⟩ = some (.int .i64 0) ∧ W.frozen? ⟨b, 0, none⟩ = false ∧ W.frozen? ⟨b, 1, none⟩ = false := by
        obtain ⟨κ', _, h2, _, h4⟩ := hT.ex
        obtain ⟨b, e1, _, e3⟩ := h4 l0
        rw [hL] at e3
        simp only [Bool.false_eq_true, if_false] at e3
        exact ⟨b, e1, row2 (h2.at e3)⟩
      obtain ⟨c1, z0, z1⟩ := hkb
      rw [hb] at e0
      refine goesV_skip (w1 := (W.setCell ⟨b, 0, none⟩ (.int .i64 r0)).setCell ⟨b, 1, none⟩ (.int .i64 r1)) ?_ ⟨hV.free rfl, hT.store hL l0 (hdep 8 45 (by kernel_rfl)).1 hb _⟩
      simp only [execOp, Act.eval, e0, e1]
      go_simp
    refine AllOps.cons ?_ ?_
    · intro L vals aa W hC hB hL hD hdep
      obtain ⟨hV, hT⟩ := hC
      refine .inl ⟨rfl, ?_⟩
      have e0 : aa.tmps.getD 46 undef = .int .i64 r2 := hV.at (j := 9) rfl (hdep 9 46 (by kernel_rfl))
      refine goesV_value (v := .int .i64 r2) ?_ ⟨hV.fix rfl, hT.idle (by decide) (fun e => absurd e (by decide)) (fun e => absurd e (by decide)) _⟩
      simp only [execOp, Act.eval, e0]
      go_simp
    exact trivial
  · intro L vals aa w8 hC hLL hB hall
    obtain ⟨hV, hT⟩ := hC
    obtain ⟨κ', hsub, hT, _, h10⟩ := hT.ex
    obtain ⟨b1, hb1, hkb, hkb1⟩ := h10 (hLL 10 (Nat.le_of_ble_eq_true rfl))
    rw [hLL 6 (Nat.le_of_ble_eq_true rfl)] at hT
    rw [hLL 11 (Nat.le_of_ble_eq_true rfl)] at hkb1
    simp only [if_true] at hT hkb1
    clear h10
    have hv : ∀ p ∈ [((38 : Nat), (.pointer (some ⟨gs, 0, none⟩) : Value)), ((39 : Nat), (.pointer (some ⟨ab, 1, none⟩) : Value)), ((40 : Nat), (.int .i64 k : Value)), ((41 : Nat), (.pointer (some ⟨ab, 3, none⟩) : Value)), ((42 : Nat), (.slice so l.length sc : Value)), ((43 : Nat), (vals 5 : Value)), ((44 : Nat), (.tuple #[.agg #[.int .i64 r0, .int .i64 r1], .int .i64 r2] : Value)), ((37 : Nat), (.tuple #[.agg #[.int .i64 r0, .int .i64 r1], .int .i64 r2] : Value)), ((45 : Nat), (.agg #[.int .i64 r0, .int .i64 r1] : Value)), ((46 : Nat), (.int .i64 r2 : Value)), ((7 : Nat), (.pointer (some ⟨b1, 0, none⟩) : Value)), ((8 : Nat), (.int .i64 r2 : Value))], aa.tmps.getD p.1 undef = p.2 := by
      intro p hp
      simp only [List.mem_cons, List.not_mem_nil, or_false] at hp
      rcases hp with rfl | rfl | rfl | rfl | rfl | rfl | rfl | rfl | rfl | rfl | rfl | rfl
      · exact (hall 0 _ rfl _ rfl).trans (hV 0 _ rfl (hLL 0 (Nat.le_of_ble_eq_true rfl)))
      · exact (hall 1 _ rfl _ rfl).trans (hV 1 _ rfl (hLL 1 (Nat.le_of_ble_eq_true rfl)))
      · exact (hall 2 _ rfl _ rfl).trans (hV 2 _ rfl (hLL 2 (Nat.le_of_ble_eq_true rfl)))
      · exact (hall 3 _ rfl _ rfl).trans (hV 3 _ rfl (hLL 3 (Nat.le_of_ble_eq_true rfl)))
      · exact (hall 4 _ rfl _ rfl).trans (hV 4 _ rfl (hLL 4 (Nat.le_of_ble_eq_true rfl)))
      · exact hall 5 _ rfl _ rfl
      · exact (hall 6 _ rfl _ rfl).trans (hV 6 _ rfl (hLL 6 (Nat.le_of_ble_eq_true rfl)))
      · exact (hall 7 _ rfl _ rfl).trans (hV 7 _ rfl (hLL 7 (Nat.le_of_ble_eq_true rfl)))
      · exact (hall 8 _ rfl _ rfl).trans (hV 8 _ rfl (hLL 8 (Nat.le_of_ble_eq_true rfl)))
      · exact (hall 9 _ rfl _ rfl).trans (hV 9 _ rfl (hLL 9 (Nat.le_of_ble_eq_true rfl)))
      · exact (hall 10 _ rfl _ rfl).trans hb1
      · exact (hall 12 _ rfl _ rfl).trans (hV 12 _ rfl (hLL 12 (Nat.le_of_ble_eq_true rfl)))
    have hact := act_fold _ hB hv (by kernel_rfl)
    subst hact
    have HA3 := Lib.hid hT
    have HSU := Lib.hid hsub
    have HKB := Lib.hid hkb
    have HKB1 := Lib.hid hkb1
    have HK1 := Lib.hid (hsub _ _ HK0.out)
    clear hv hall hB hV hLL hT hsub hkb hkb1 hb1 HA
    refine (‹∀ (a : Act) (w : World), Code.wp Try.prog _ _ a w → _›) _ w8 ?_
    simp only [List.foldl, List.setIfInBounds_toArray, List.set_cons_succ, List.set_cons_zero]
    obtain ⟨a0, a1, a2, a3, a4, a5, a6, a7, a8⟩ := row9 (HA3.out.at HK1.out)
    obtain ⟨Q, hst, hlo, hkr, hgo⟩ := HA3.out.rstep
    have HGO := Lib.hid hgo
    have hcc := rmake_any gm Q s k (.slice so l.length sc) l w8 hst (HR.out.below HA3.out.bel) (by have := HLT.out.2.1; omega)
    rw [HCS.out] at hcc
    have HCC := Lib.hid hcc
    clear hcc hst hlo hkr hgo
    go_wp2_with fail
    refine HCC.out.mono ?_
    rintro e w4 ⟨rfl, hp4⟩
    have HA4 := Lib.hid (HGO.out _ _ hp4)
    clear hp4 HGO HCC a0 a1 a2 a3 a4 a5 a6 a7 a8 HA3
    have HA5 := Lib.hid (HA4.out.alloc (.cells #[.int .i64 r0, .int .i64 r1] 35))
    have HS2 : Hid (∀ b o, κ' b = some o → b ≠ w4.heap.size) := Lib.hid fun b o hk e => HA4.out.new hk (by omega)
    go_upto_region 5 with fail
    generalize w4.alloc (.cells #[.int .i64 r0, .int .i64 r1] 35) = w5 at *
    have p := row2 (HA5.out.at (kadd_old (n := w4.heap.size) (o' := .cells #[.int .i64 r0, .int .i64 r1] 35) HKB1.out (HS2.out _ _ HKB1.out)))
    have q := row2 (HA5.out.at (b := w4.heap.size) kadd_self)
    obtain ⟨p0, p1, _⟩ := p
    obtain ⟨q0, q1, _⟩ := q
    go_wp2_with fail
    go_ret
    exact ⟨rfl, _, (HA5.out.sub fun b o hk => kadd_old (HSU.out b o (kadd_old hk (HSUB.out b o hk))) (HS2.out b o (HSU.out b o (kadd_old hk (HSUB.out b o hk))))), HGD.out⟩

end Go.Proofs.Ytioidaojnbenbaa
namespace Go.Proofs.Ytioidaojnbenbaa
open Go.RowKit

/-- The last so many objects, the newest first. -/
def lastA (n j : Nat) : List (Int × Int) := (List.range j).map fun t => ((7 : Int), (((n : Nat) : Int) - 1) - ((t : Nat) : Int))
theorem lastA_len (n j : Nat) : (lastA n j).length = j := by simp [lastA]
theorem lastA_succ (n j : Nat) : lastA n (j + 1) = lastA n j ++ [((7 : Int), (((n : Nat) : Int) - 1) - ((j : Nat) : Int))] := by simp [lastA, List.range_succ]
def ktrack (κ : Nat → Option Obj) (w : World) (v : Value) : Nat → Option Obj := fun b => if v.ownBlock = some b then w.heap[b]? else κ b
section
variable {w0 w w' : World} {gs gm : Nat} {s t : St} {κ : Nat → Option Obj} {v v' : Value}
theorem ktrack_self {b : Nat} (h : v.ownBlock = some b) : ktrack κ w v b = w.heap[b]? := by simp [ktrack, h]
theorem ktrack_old {b : Nat} {o : Obj} (h : κ b = some o) (hk : ∀ b, v.ownBlock = some b → κ b = none) : ktrack κ w v b = some o := by
  unfold ktrack
  by_cases e : v.ownBlock = some b
  · rw [hk b e] at h; cases h
  · rw [if_neg e]; exact h
theorem TwoX.track (h : TwoX w0 w gs gm s t κ) (hb : Below w.heap.size w w') (hv : ∀ b, v.ownBlock = some b → w.heap.size ≤ b ∧ b < w'.heap.size) : TwoX w0 w' gs gm s t (ktrack κ w' v) ∧ ∀ b, v.ownBlock = some b → κ b = none := by
  have hno : ∀ b, v.ownBlock = some b → κ b = none := fun b e => by
    cases hk : κ b with
    | none => rfl
    | some o => exact absurd (hv b e).1 (fun h1 => h.new hk h1)
  refine ⟨?_, hno⟩
  cases hvb : v.ownBlock with
  | none =>
    refine (h.below hb).sub fun b o hk => ?_
    unfold ktrack at hk
    rw [hvb] at hk
    simpa using hk
  | some b =>
    obtain ⟨h1, h2⟩ := hv b hvb
    refine (h.grow hb h1 (Array.getElem?_eq_getElem h2)).sub fun b' o hk => ?_
    unfold ktrack at hk
    by_cases e : b' = b
    · subst e
      rw [if_pos hvb] at hk
      rw [kadd_self, ← hk, Array.getElem?_eq_getElem h2]
    · rw [if_neg (by rw [hvb]; intro e2; injection e2 with e2; exact e e2.symm)] at hk
      rw [kadd_ne e]; exact hk
/-- The row grows. -/
theorem TwoX.rowed (h : TwoX w0 w gs gm s t (ktrack κ w v)) (hk : ∀ b, v.ownBlock = some b → κ b = none) (hvl : ∀ b, v.ownBlock = some b → b < w.heap.size) (hg : w.grownBy w' v.ownBlock) (hm : MovedTo w v v') (hl : ∀ b, v'.ownBlock = some b → b < w'.heap.size) : TwoX w0 w' gs gm s t (ktrack κ w' v') ∧ ∀ b, v'.ownBlock = some b → κ b = none := by
  have hkn : ∀ b o, κ b = some o → v.ownBlock ≠ some b := fun b o h1 e => by rw [hk b e] at h1; cases h1
  have hno : ∀ b, v'.ownBlock = some b → κ b = none := fun b e => by
    rcases hm with hm | ⟨b2, hm, hge⟩
    · exact hk b (hm ▸ e)
    · rw [hm] at e
      injection e with e
      subst e
      cases hkb : κ b2 with
      | none => rfl
      | some o => exact absurd hge fun h1 => h.new (ktrack_old hkb hk) h1
  refine ⟨?_, hno⟩
  obtain ⟨R, Q, h1, h2⟩ := h
  have hkp : Keeps (fun b => v.ownBlock ≠ some b) w w' := Keeps.of_grown hg fun b e hn => hn e
  have hv0 : ∀ b, v.ownBlock = some b → R b = 0 ∧ Q b = 0 ∧ w0.heap.size ≤ b := fun b e => (h2 b _ ((ktrack_self e).trans (Array.getElem?_eq_getElem (hvl b e)))).2
  refine ⟨R, Q, ⟨⟨h1.st.st.keep (hkp.mono fun b _ hr e => hr (hv0 b e).1), h1.st.bel.grown hg h1.st.bel.size (fun q hq => (hv0 q hq).2.2), h1.st.lo⟩, h1.rs.keep (hkp.mono fun b _ hr e => hr (hv0 b e).2.1), h1.dj, h1.lo⟩, fun b o hko => ?_⟩
  unfold ktrack at hko
  by_cases e : v'.ownBlock = some b
  · rw [if_pos e] at hko
    refine ⟨hko, ?_⟩
    rcases hm with hm | ⟨b2, hm, hge⟩
    · exact hv0 b (hm ▸ e)
    · rw [hm] at e
      injection e with e
      subst e
      exact ⟨h1.st.new_zero hge, Classical.byContradiction fun hn => by have := h1.rs.lt _ hn; omega, Nat.le_trans h1.st.bel.size hge⟩
  · rw [if_neg e] at hko
    have h3 := h2 b o (ktrack_old hko hk)
    exact ⟨(hkp.2 b (Array.getElem?_eq_some_iff.1 h3.1).1 (hkn b o hko)).trans h3.1, h3.2⟩
/-- What Collect of the store leaves, with a row that is new. -/
theorem TwoX.scol (h : TwoX w0 w gs gm s t κ) : ∃ R, StW w gs R s ∧ (∀ b o, κ b = some o → R b = 0) ∧ ∀ s' w' R', StW w' gs R' s' → Fr R w w' → (∀ b, R' b = 0 ↔ R b = 0) → ∀ v : Value, (∀ b, v.ownBlock = some b → w.heap.size ≤ b ∧ b < w'.heap.size) → TwoX w0 w' gs gm s' t (ktrack κ w' v) ∧ ∀ b, v.ownBlock = some b → κ b = none := by
  have hno : ∀ b, w.heap.size ≤ b → κ b = none := fun b e => by
    cases hk : κ b with
    | none => rfl
    | some o => exact absurd e (fun h1 => h.new hk h1)
  obtain ⟨R, Q, h1, h2⟩ := h
  refine ⟨R, h1.st.st, fun b o hk => (h2 b o hk).2.1, fun s' w' R' hst hfr hiff v hv => ⟨?_, fun b e => hno b (hv b e).1⟩⟩
  have hlt : ∀ b o, κ b = some o → b < w.heap.size := fun b o hk => (Array.getElem?_eq_some_iff.1 (h2 b o hk).1).1
  have k1 : StQ w0 w' gs R' s' := ⟨hst, h1.st.bel.trans (hfr.below h1.st.bel.size h1.st.lo), fun b hb => h1.st.lo b fun h0 => hb ((hiff b).2 h0)⟩
  refine ⟨R', Q, ⟨k1, h1.rs.keep (hfr.keeps.mono fun b _ hq => h1.dj b hq), fun b hq => (hiff b).2 (h1.dj b hq), h1.lo⟩, fun b o hko => ?_⟩
  unfold ktrack at hko
  by_cases e : v.ownBlock = some b
  · rw [if_pos e] at hko
    obtain ⟨hge, _⟩ := hv b e
    exact ⟨hko, (hiff b).2 (h1.st.new_zero hge), Classical.byContradiction fun hn => by have := h1.rs.lt _ hn; omega, Nat.le_trans h1.st.bel.size hge⟩
  · rw [if_neg e] at hko
    exact ⟨(hfr.blk b (hlt b o hko) (h2 b o hko).2.1).trans (h2 b o hko).1, (hiff b).2 (h2 b o hko).2.1, (h2 b o hko).2.2⟩
end
theorem ktrack_below {w w' : World} {κ : Nat → Option Obj} {v : Value} (hb : Below w.heap.size w w') (hl : ∀ b, v.ownBlock = some b → b < w.heap.size) : ktrack κ w' v = ktrack κ w v := by
  funext b
  unfold ktrack
  by_cases e : v.ownBlock = some b
  · rw [if_pos e, if_pos e]; exact hb.block b (hl b e)
  · rw [if_neg e, if_neg e]
theorem rowv_nil (w : World) : RowV w (.slice none 0 0) 0 2 (vcs []) := ⟨rfl, Nat.zero_le _, none, 0, rfl, Nat.le_refl _, .inl ⟨rfl, fun _ => rfl⟩⟩
/-- A row stays with its block. -/
theorem row_track {w W : World} {κ : Nat → Option Obj} {v : Value} {n size : Nat} {us : List Value} (h : RowV w v n size us) (hb : ∀ b o, ktrack κ w v b = some o → W.heap[b]? = some o) : RowV W v n size us := by
  rcases h.boxed with ⟨_, hW⟩ | ⟨b, o, hv, ho, hW⟩
  · exact hW W
  · exact hW W (hb b o ((ktrack_self hv).trans ho))


set_option maxRecDepth 100000 in
set_option maxHeartbeats 8000000 in
theorem act7_any (w0 w : World) (gs gm : Nat) (s : St) (n : Nat) (κ : Nat → Option Obj) (d k i : Int) (sv : Value) (l : List (Int × Int)) (v x : Int × Int) (t : ByteArray) (h : TwoX w0 w gs gm s s κ) (hg : Gd s n) (hn : n < 1000) (hr : RowV w0 sv l.length 2 (vcs l)) (hl : l.length ≤ 100) (ht : t.size ≤ 140737488355328) (hd : d = 7) :
    Calls Try.prog 9 #[.pointer (some ⟨gs, 0, none⟩), .pointer (some ⟨gm, 0, none⟩), .agg #[.int .i64 d, .int .i64 k, .int .i64 i, sv, .int .i64 v.1, .int .i64 v.2, .int .i64 x.1, .int .i64 x.2, .string t]] w fun e w' => e = .returned (.bool true) ∧ ∃ s', TwoX w0 w' gs gm s' s' κ ∧ Gd s' (n + 1) := by
  subst hd
  obtain ⟨so, sc, rfl⟩ := rowv_slice hr
  obtain ⟨v0, v1⟩ := v
  obtain ⟨x0, x1⟩ := x
  simp only
  have HG := Lib.hid hg
  have HR := Lib.hid hr
  have HLT := Lib.hid (And.intro hn (And.intro hl ht))
  have HSUB : Hid (∀ b o, κ b = some o → b ≠ w.heap.size) := Lib.hid fun b o hk e => h.new hk (by omega)
  have HA := Lib.hid (h.alloc (.cells #[.int .i64 7, .int .i64 k, .int .i64 i, .slice so l.length sc, .int .i64 v0, .int .i64 v1, .int .i64 x0, .int .i64 x1, .string t] 37))
  have HK0 : Hid (kadd κ w.heap.size (.cells #[.int .i64 7, .int .i64 k, .int .i64 i, .slice so l.length sc, .int .i64 v0, .int .i64 v1, .int .i64 x0, .int .i64 x1, .string t] 37) w.heap.size = some (.cells #[.int .i64 7, .int .i64 k, .int .i64 i, .slice so l.length sc, .int .i64 v0, .int .i64 v1, .int .i64 x0, .int .i64 x1, .string t] 37)) := Lib.hid kadd_self
  clear h hg hr hl ht hn
  go_enter Try.func9, Try.ntmps9
  go_upto_region 1 with fail
  generalize w.alloc (.cells #[.int .i64 7, .int .i64 k, .int .i64 i, .slice so l.length sc, .int .i64 v0, .int .i64 v1, .int .i64 x0, .int .i64 x1, .string t] 37) = w1 at *
  generalize hab : w.heap.size = ab at *
  clear hab
  obtain ⟨a0, a1, a2, a3, a4, a5, a6, a7, a8⟩ := row9 (HA.out.at HK0.out)
  clear a0 a1 a2 a3 a4 a5 a6 a7 a8
  obtain ⟨Nn, hNn⟩ : ∃ N, N = s.os.length := ⟨_, rfl⟩
  have HNN := Lib.hid hNn
  have hNl : Nn ≤ 1048576 := by
    obtain ⟨R, hst, _⟩ := HA.out.sstep
    obtain ⟨_, _, _, _, h2⟩ := hst
    rw [hNn]; exact h2.ok.len
  clear hNn
  have HOBJ : Hid (∀ W κ', TwoX w0 W gs gm s s κ' → ∃ oo oc, W.cell? ⟨gm, 2, none⟩ = some (.slice oo Nn oc)) := Lib.hid fun W κ' hT => by
    obtain ⟨Q, hst, _⟩ := hT.rstep
    obtain ⟨ms, ov, nv, hm⟩ := hst
    obtain ⟨oo, oc, rfl⟩ := own_dslice hm.orow
    refine ⟨oo, oc, ?_⟩
    have := hm.boxf.1.2.2.1
    rw [this, HNN.out, hm.len]
  obtain ⟨a0, a1, a2, a3, a4, a5, a6, a7, a8⟩ := row9 (HA.out.at HK0.out)
  go_wp2_with fail
  refine (vown_any _ l _ (HR.out.below HA.out.bel) (by have := HLT.out.2.1; omega)).mono ?_
  rintro e w2 ⟨rv, rfl, hown, hb2⟩
  have ht2 := HA.out.track (v := rv) hb2 fun b hb => hown.lt b hb
  have HT2 := Lib.hid ht2.1
  have HN2 := Lib.hid ht2.2
  have HO2 : Hid (w2.ownsRow w0.heap.size 35 2 rv l.length (vcs l)) := Lib.hid ⟨hown.1, hown.2.imp id fun ⟨a, c, cu, e, h1, h⟩ => ⟨a, c, cu, e, Nat.le_trans HA.out.bel.size h1, h⟩⟩
  clear hown hb2 ht2 a0 a1 a2 a3 a4 a5 a6 a7 a8 HA
  go_wp2_with fail
  go_loopw [27, 28] (fun c v wr => ∃ j : Nat, j ≤ Nn ∧ v = .int .i64 (j : Nat) ∧ TwoX w0 wr gs gm s s (ktrack (kadd κ ab (.cells #[.int .i64 7, .int .i64 k, .int .i64 i, .slice so l.length sc, .int .i64 v0, .int .i64 v1, .int .i64 x0, .int .i64 x1, .string t] 37)) wr c) ∧ (∀ b, c.ownBlock = some b → kadd κ ab (.cells #[.int .i64 7, .int .i64 k, .int .i64 i, .slice so l.length sc, .int .i64 v0, .int .i64 v1, .int .i64 x0, .int .i64 x1, .string t] 37) b = none) ∧ wr.ownsRow w0.heap.size 35 2 c (l.length + j) (vcs (l ++ lastA Nn j))) (fun _ v _ => Nn - (intOf v).toNat)
  case atStart => exact ⟨0, Nat.zero_le _, rfl, HT2.out, HN2.out, by simpa [lastA] using HO2.out⟩
  case round =>
    obtain ⟨j, hj, rfl, hT, hno, hown⟩ := hrel
    have HT := Lib.hid hT
    have HNO := Lib.hid hno
    have HOW := Lib.hid hown
    have HK1 := Lib.hid (ktrack_old (w := wr) HK0.out hno)
    obtain ⟨ro, rc, rfl⟩ := own_dslice hown
    clear hT hno hown HT2 HN2 HO2
    obtain ⟨a0, a1, a2, a3, a4, a5, a6, a7, a8⟩ := row9 (HT.out.at HK1.out)
    obtain ⟨oo, oc, m2⟩ := HOBJ.out _ _ HT.out
    have hl100 := HLT.out.2.1
    clear a0 a1 a3 a4 a5 a6 a7 a8
    by_cases hji : ((j : Nat) : Int) < i
    · by_cases hjn : j < Nn
      · have hjN : ((j : Nat) : Int) < ((Nn : Nat) : Int) := by omega
        obtain ⟨i1, hi1, hy0, hy1, hy2⟩ := info_parts infoVal
        have HRA := Lib.hid (row1o wr [.int .i64 7, .int .i64 ((((Nn : Nat) : Int) - 1) - ((j : Nat) : Int))] 35)
        have HOA := Lib.hid (HOW.out.alloc (.cells #[.int .i64 7, .int .i64 ((((Nn : Nat) : Int) - 1) - ((j : Nat) : Int))] 35))
        have HBA := Lib.hid (below1 wr (.cells #[.int .i64 7, .int .i64 ((((Nn : Nat) : Int) - 1) - ((j : Nat) : Int))] 35))
        go_wp2_with (at_builtin; go_loud (refine wpList_append_row _ rfl _ _ 33 rfl w0.heap.size 35 i1 _ 2 16 Try.underlying33 hi1 hy0 hy1 hy2 rfl (by decide) (.slice ro (l.length + j) rc) (l.length + j) (vcs (l ++ lastA Nn j)) rfl HOA.out _ 1 [.int .i64 7, .int .i64 ((((Nn : Nat) : Int) - 1) - ((j : Nat) : Int))] rfl HRA.out (by intro u hu; simp only [List.mem_cons, List.not_mem_nil, or_false] at hu; rcases hu with rfl | rfl <;> rfl) (by unfold maxLen; omega) (by omega) (by have := HT.out.bel.size; simp; omega) ?_); go_loud (intro v' w7 hown7 hgrow7 hmv7; have HO7 := Lib.hid hown7; have HG7 := Lib.hid hgrow7; have HM7 := Lib.hid hmv7; clear hown7 hgrow7 hmv7 hi1 hy0 hy1 hy2))
        go_roundw
        case measure => simp only [intOf]; omega
        case rel =>
          have hvl : ∀ b, (Value.slice ro (l.length + j) rc).ownBlock = some b → b < wr.heap.size := fun b hb => (HOW.out.lt b hb).2
          have h1 := HT.out.below HBA.out
          rw [← ktrack_below HBA.out hvl] at h1
          obtain ⟨h2, h3⟩ := h1.rowed HNO.out (fun b hb => Nat.lt_of_lt_of_le (hvl b hb) HBA.out.size) HG7.out HM7.out (fun b hb => (HO7.out.lt b hb).2)
          refine ⟨j + 1, by omega, by go_num, h2, h3, ?_⟩
          have h4 := HO7.out
          have e : vcs (l ++ lastA Nn j) ++ [.int .i64 7, .int .i64 ((((Nn : Nat) : Int) - 1) - ((j : Nat) : Int))] = vcs (l ++ lastA Nn (j + 1)) := by
            rw [lastA_succ, ← List.append_assoc, vcs_append (l ++ lastA Nn j)]; rfl
          rw [e] at h4
          exact h4
      · have hjN : ¬ ((j : Nat) : Int) < ((Nn : Nat) : Int) := by omega
        obtain ⟨rs, hrs⟩ : ∃ rs, rs = l ++ lastA Nn j := ⟨_, rfl⟩
        have hln : l.length + j = rs.length := by rw [hrs]; simp [lastA_len]
        rw [← hrs] at HOW
        have HRL : Hid (rs.length ≤ 2000000) := Lib.hid (by omega)
        clear hrs
        generalize l.length + j = mm at *
        subst hln
        go_wp2_with fail
        refine (vown_any _ rs _ (RowV.of_own HOW.out) HRL.out).mono ?_
        rintro e w3 ⟨rv2, rfl, hown3, hb3⟩
        have ht3 := HT.out.track (v := rv2) hb3 fun b hb => hown3.lt b hb
        have HT3 := Lib.hid ht3.1
        have HN3 := Lib.hid ht3.2
        have HO3 := Lib.hid hown3
        clear ht3 hown3 hb3
        clear a2 m2
        obtain ⟨R, hst, hkr, hgo⟩ := HT3.out.scol
        have HGO := Lib.hid hgo
        have hcc := stcollect_any gs R s rv2 rs w3 hst (RowV.of_own HO3.out) HRL.out (fun b _ hb => hkr b _ ((ktrack_self hb).trans (Array.getElem?_eq_getElem (HO3.out.lt b hb).2)))
        have HCC := Lib.hid hcc
        clear hcc hst hkr hgo
        go_wp2_with fail
        refine HCC.out.mono ?_
        rintro e w4 hcp
        clear HCC
        rcases hcp with ⟨hall, rfl, hb4⟩ | ⟨hall, v4, R4, rfl, hst4, hfr4, hiff4, hown4⟩
        · have HALL := Lib.hid hall
          have HT4 := Lib.hid (HT3.out.below hb4)
          clear hall hb4 HGO
          have HRW : Hid (∀ W gs' s', TwoX w0 W gs' gm s' s (ktrack (ktrack (kadd κ ab (.cells #[.int .i64 7, .int .i64 k, .int .i64 i, .slice so l.length sc, .int .i64 v0, .int .i64 v1, .int .i64 x0, .int .i64 x1, .string t] 37)) wr (.slice ro rs.length rc)) w3 rv2) → RowV W (.slice ro rs.length rc) rs.length 2 (vcs rs)) := Lib.hid fun W gs' s' hT => row_track (RowV.of_own HOW.out) fun b o hk => hT.at (ktrack_old hk HN3.out)
          obtain ⟨Q, hst, _, hkr, hgo⟩ := HT4.out.rstep
          have hcc := rcollect_any gm Q s (.slice ro rs.length rc) rs w4 hst HG.out.rk (HRW.out _ _ _ HT4.out) HRL.out (fun b _ hb => hkr b _ (ktrack_old ((ktrack_self hb).trans (Array.getElem?_eq_getElem (HOW.out.lt b hb).2)) HN3.out))
          have HCC := Lib.hid hcc
          clear hcc hst hkr hgo
          go_wp2_with fail
          refine HCC.out.mono ?_
          rintro e w5 hcp
          rcases hcp with ⟨_, rfl, hb5⟩ | ⟨hall2, _⟩
          · have HT5 := Lib.hid (HT4.out.below hb5)
            clear hb5 HCC
            go_wp2_with fail
            refine (vsame_any _ _ [] [] _ (rowv_nil _) (rowv_nil _) (Nat.zero_le _)).mono ?_
            rintro e w6 ⟨rfl, hb6⟩
            have HT6 := Lib.hid (HT5.out.below hb6)
            clear hb6
            simp only [decide_true]
            go_wp2_with fail
            go_ret
            exact ⟨rfl, _, HT6.out.sub fun b o hk => ktrack_old (ktrack_old (kadd_old hk (HSUB.out b o hk)) HNO.out) HN3.out, HG.out.more (by omega)⟩
          · rw [HALL.out] at hall2; cases hall2
        · have HALL := Lib.hid hall
          obtain ⟨h4a, h4b⟩ := HGO.out _ _ _ hst4 hfr4 hiff4 v4 fun b hb => hown4.lt b hb
          have HT4 := Lib.hid h4a
          have HN4 := Lib.hid h4b
          have HO4 := Lib.hid hown4
          clear hall hst4 hfr4 hiff4 hown4 h4a h4b HGO
          have HRW : Hid (RowV w4 (.slice ro rs.length rc) rs.length 2 (vcs rs)) := Lib.hid (row_track (RowV.of_own HOW.out) fun b o hk => HT4.out.at (ktrack_old (ktrack_old hk HN3.out) HN4.out))
          obtain ⟨Q, hst, _, hkr, hgo⟩ := HT4.out.rstep
          have HGO := Lib.hid hgo
          have hcc := rcollect_any gm Q s (.slice ro rs.length rc) rs w4 hst HG.out.rk HRW.out HRL.out (fun b _ hb => hkr b _ (ktrack_old (ktrack_old ((ktrack_self hb).trans (Array.getElem?_eq_getElem (HOW.out.lt b hb).2)) HN3.out) HN4.out))
          have HCC := Lib.hid hcc
          clear hcc hst hkr hgo
          go_wp2_with fail
          refine HCC.out.mono ?_
          rintro e w5 hcp
          rcases hcp with ⟨hall2, _⟩ | ⟨_, out, rfl, hp5, hrow5⟩
          · rw [HALL.out] at hall2; cases hall2
          · have HT5 := Lib.hid (HGO.out _ _ hp5)
            have HR5 : Hid (RowV w5 out (rs.map (mvV (rchB s rs))).length 2 (vcs (rs.map (mvV (rchB s rs))))) := Lib.hid (by rw [List.length_map]; exact hrow5)
            have HR4 : Hid (RowV w5 v4 (rs.map (mvV (rchB s rs))).length 2 (vcs (rs.map (mvV (rchB s rs))))) := Lib.hid (by rw [List.length_map]; exact row_track (RowV.of_own HO4.out) fun b o hk => HT5.out.at hk)
            clear hp5 hrow5 HGO HCC
            go_wp2_with fail
            refine (vsame_any _ _ _ _ _ HR4.out HR5.out (by rw [List.length_map]; exact HRL.out)).mono ?_
            rintro e w6 ⟨rfl, hb6⟩
            have HT6 := Lib.hid (HT5.out.below hb6)
            clear hb6
            simp only [decide_true]
            go_wp2_with fail
            go_ret
            exact ⟨rfl, _, HT6.out.sub fun b o hk => ktrack_old (ktrack_old (ktrack_old (kadd_old hk (HSUB.out b o hk)) HNO.out) HN3.out) HN4.out, HG.out.left (rchB s rs)⟩
    · obtain ⟨rs, hrs⟩ : ∃ rs, rs = l ++ lastA Nn j := ⟨_, rfl⟩
      have hln : l.length + j = rs.length := by rw [hrs]; simp [lastA_len]
      rw [← hrs] at HOW
      have HRL : Hid (rs.length ≤ 2000000) := Lib.hid (by omega)
      clear hrs
      generalize l.length + j = mm at *
      subst hln
      go_wp2_with fail
      refine (vown_any _ rs _ (RowV.of_own HOW.out) HRL.out).mono ?_
      rintro e w3 ⟨rv2, rfl, hown3, hb3⟩
      have ht3 := HT.out.track (v := rv2) hb3 fun b hb => hown3.lt b hb
      have HT3 := Lib.hid ht3.1
      have HN3 := Lib.hid ht3.2
      have HO3 := Lib.hid hown3
      clear ht3 hown3 hb3
      clear a2 m2
      obtain ⟨R, hst, hkr, hgo⟩ := HT3.out.scol
      have HGO := Lib.hid hgo
      have hcc := stcollect_any gs R s rv2 rs w3 hst (RowV.of_own HO3.out) HRL.out (fun b _ hb => hkr b _ ((ktrack_self hb).trans (Array.getElem?_eq_getElem (HO3.out.lt b hb).2)))
      have HCC := Lib.hid hcc
      clear hcc hst hkr hgo
      go_wp2_with fail
      refine HCC.out.mono ?_
      rintro e w4 hcp
      clear HCC
      rcases hcp with ⟨hall, rfl, hb4⟩ | ⟨hall, v4, R4, rfl, hst4, hfr4, hiff4, hown4⟩
      · have HALL := Lib.hid hall
        have HT4 := Lib.hid (HT3.out.below hb4)
        clear hall hb4 HGO
        have HRW : Hid (∀ W gs' s', TwoX w0 W gs' gm s' s (ktrack (ktrack (kadd κ ab (.cells #[.int .i64 7, .int .i64 k, .int .i64 i, .slice so l.length sc, .int .i64 v0, .int .i64 v1, .int .i64 x0, .int .i64 x1, .string t] 37)) wr (.slice ro rs.length rc)) w3 rv2) → RowV W (.slice ro rs.length rc) rs.length 2 (vcs rs)) := Lib.hid fun W gs' s' hT => row_track (RowV.of_own HOW.out) fun b o hk => hT.at (ktrack_old hk HN3.out)
        obtain ⟨Q, hst, _, hkr, hgo⟩ := HT4.out.rstep
        have hcc := rcollect_any gm Q s (.slice ro rs.length rc) rs w4 hst HG.out.rk (HRW.out _ _ _ HT4.out) HRL.out (fun b _ hb => hkr b _ (ktrack_old ((ktrack_self hb).trans (Array.getElem?_eq_getElem (HOW.out.lt b hb).2)) HN3.out))
        have HCC := Lib.hid hcc
        clear hcc hst hkr hgo
        go_wp2_with fail
        refine HCC.out.mono ?_
        rintro e w5 hcp
        rcases hcp with ⟨_, rfl, hb5⟩ | ⟨hall2, _⟩
        · have HT5 := Lib.hid (HT4.out.below hb5)
          clear hb5 HCC
          go_wp2_with fail
          refine (vsame_any _ _ [] [] _ (rowv_nil _) (rowv_nil _) (Nat.zero_le _)).mono ?_
          rintro e w6 ⟨rfl, hb6⟩
          have HT6 := Lib.hid (HT5.out.below hb6)
          clear hb6
          simp only [decide_true]
          go_wp2_with fail
          go_ret
          exact ⟨rfl, _, HT6.out.sub fun b o hk => ktrack_old (ktrack_old (kadd_old hk (HSUB.out b o hk)) HNO.out) HN3.out, HG.out.more (by omega)⟩
        · rw [HALL.out] at hall2; cases hall2
      · have HALL := Lib.hid hall
        obtain ⟨h4a, h4b⟩ := HGO.out _ _ _ hst4 hfr4 hiff4 v4 fun b hb => hown4.lt b hb
        have HT4 := Lib.hid h4a
        have HN4 := Lib.hid h4b
        have HO4 := Lib.hid hown4
        clear hall hst4 hfr4 hiff4 hown4 h4a h4b HGO
        have HRW : Hid (RowV w4 (.slice ro rs.length rc) rs.length 2 (vcs rs)) := Lib.hid (row_track (RowV.of_own HOW.out) fun b o hk => HT4.out.at (ktrack_old (ktrack_old hk HN3.out) HN4.out))
        obtain ⟨Q, hst, _, hkr, hgo⟩ := HT4.out.rstep
        have HGO := Lib.hid hgo
        have hcc := rcollect_any gm Q s (.slice ro rs.length rc) rs w4 hst HG.out.rk HRW.out HRL.out (fun b _ hb => hkr b _ (ktrack_old (ktrack_old ((ktrack_self hb).trans (Array.getElem?_eq_getElem (HOW.out.lt b hb).2)) HN3.out) HN4.out))
        have HCC := Lib.hid hcc
        clear hcc hst hkr hgo
        go_wp2_with fail
        refine HCC.out.mono ?_
        rintro e w5 hcp
        rcases hcp with ⟨hall2, _⟩ | ⟨_, out, rfl, hp5, hrow5⟩
        · rw [HALL.out] at hall2; cases hall2
        · have HT5 := Lib.hid (HGO.out _ _ hp5)
          have HR5 : Hid (RowV w5 out (rs.map (mvV (rchB s rs))).length 2 (vcs (rs.map (mvV (rchB s rs))))) := Lib.hid (by rw [List.length_map]; exact hrow5)
          have HR4 : Hid (RowV w5 v4 (rs.map (mvV (rchB s rs))).length 2 (vcs (rs.map (mvV (rchB s rs))))) := Lib.hid (by rw [List.length_map]; exact row_track (RowV.of_own HO4.out) fun b o hk => HT5.out.at hk)
          clear hp5 hrow5 HGO HCC
          go_wp2_with fail
          refine (vsame_any _ _ _ _ _ HR4.out HR5.out (by rw [List.length_map]; exact HRL.out)).mono ?_
          rintro e w6 ⟨rfl, hb6⟩
          have HT6 := Lib.hid (HT5.out.below hb6)
          clear hb6
          simp only [decide_true]
          go_wp2_with fail
          go_ret
          exact ⟨rfl, _, HT6.out.sub fun b o hk => ktrack_old (ktrack_old (ktrack_old (kadd_old hk (HSUB.out b o hk)) HNO.out) HN3.out) HN4.out, HG.out.left (rchB s rs)⟩

end Go.Proofs.Ytioidaojnbenbaa
