/- law07's built: two stores that are alike. -/
import Derived.Test.YtimnhbndokfgnaaRsMake
import Derived.Test.YtimnhbndokfgnaaStOpM
import Derived.Laws.AppendOwnNone
namespace Go.Proofs.Ytimnhbndokfgnaa
open Go.RowKit

theorem goesV_appendR {P : Program} {w : World} {o : Oper} {a : Act} {K : Value → World → Prop} {Q : Exit → Act → World → Prop} (s x : Operand) (t : TypeId)
    (ho : o.op = .call { callee := .builtin .append, args := #[s, x], argTypes := #[t, t] })
    (base : Nat) (e : TypeId) (i : TypeInfo) (z : Value) (size bytes : Nat) (ht : P.underlying t = some (.slice e)) (hi : P.info? e = some i) (hz : i.zero = some z)
    (hsize : i.size = size) (hby : i.bytes = bytes) (hzs : z.cells.size = size) (hsz : 0 < size)
    (v : Value) (n : Nat) (xs : List Value) (hs : a.eval s = v) (hown : w.ownsRow base e size v n xs)
    (y : Value) (m : Nat) (news : List Value) (hx : a.eval x = y) (hrow : RowV w y m size news) (h1 : ∀ u ∈ news, u.oneCell' = true)
    (h63 : n + m ≤ maxLen) (hbytes : (n + m) * bytes ≤ 140737488355328) (hbase : base ≤ w.heap.size)
    (h : ∀ v' w', w'.ownsRow base e size v' (n + m) (xs ++ news) → w.grownBy w' v.ownBlock → MovedTo w v v' → K v' w') : o.wp P a w (fun a' w' => ∃ v, a' = a.put o.dst v ∧ K v w') Q := by
  obtain ⟨hlen, _, ao, cap, rfl, hcap, hr⟩ := hrow
  cases ao with
  | none =>
    have h0 : m = 0 ∧ cap = 0 := by
      rcases hr with ⟨h0, h2⟩ | ⟨b, off, h2, _⟩
      · exact ⟨h0, h2 rfl⟩
      · cases h2
    obtain ⟨rfl, rfl⟩ := h0
    have hn : news = [] := List.eq_nil_of_length_eq_zero (by simpa using hlen)
    subst hn
    have hrun := run_append_owned_none (P := P) (w := w) base t o.type e i size ht hi v n xs hown
    unfold Oper.wp
    simp [execOp, ho, resolve, invoke, builtin, hs, hx, hrun, Result.andThen]
    exact ⟨v, rfl, h v w (by simpa using hown) ⟨rfl, rfl, rfl, Nat.le_refl _, fun _ _ _ => rfl⟩ (.inl rfl)⟩
  | some ad =>
    refine goesV_append s x t ho base e i z size bytes ht hi hz hsize hby hzs hsz v n xs hs hown ad m cap news hx hlen ?_ h1 h63 hbytes hbase h
    intro j u hu
    have hj := (List.getElem?_eq_some_iff.1 hu).1
    rcases hr with ⟨h0, _⟩ | ⟨b, off, e1, _, hc⟩
    · subst h0
      simp at hlen
      subst hlen
      simp at hj
    · injection e1 with e1
      subst e1
      rw [Addr.add_mid]
      exact hc j u hu

/-- A store and a list, made since w0, that lie apart. -/
structure Two (w0 w : World) (gs gm : Nat) (R Q : Nat → Nat) (s t : St) : Prop where
  st : StQ w0 w gs R s
  rs : RsW w gm Q t
  dj : ∀ b, Q b ≠ 0 → R b = 0
  lo : ∀ b, Q b ≠ 0 → w0.heap.size ≤ b
theorem Two.below {w0 w w' : World} {gs gm : Nat} {R Q : Nat → Nat} {s t : St} (h : Two w0 w gs gm R Q s t) (hb : Below w.heap.size w w') : Two w0 w' gs gm R Q s t := ⟨h.st.below hb, h.rs.below hb, h.dj, h.lo⟩
theorem Two.step {w0 w w' : World} {gs gm : Nat} {R Q : Nat → Nat} {s s' t : St} (h : Two w0 w gs gm R Q s t) (hp : QPost w0 w gs R s' w') : ∃ R', Two w0 w' gs gm R' Q s' t := by
  obtain ⟨R', h1, h2, h3⟩ := hp
  exact ⟨R', h1, h.rs.keep (h2.keeps.mono fun b _ hq => h.dj b hq), fun b hq => (h3 b (h.rs.lt b hq)).2 (h.dj b hq), h.lo⟩
theorem Two.rstep {w0 w w' : World} {gs gm : Nat} {R Q : Nat → Nat} {s t t' : St} (h : Two w0 w gs gm R Q s t) (hp : RsP w gm Q t' w') : ∃ Q', Two w0 w' gs gm R Q' s t' := by
  obtain ⟨Q', h1, h2, h3⟩ := hp
  refine ⟨Q', ⟨h.st.st.keep (h2.keeps.mono fun b _ hr => Classical.byContradiction fun hq => hr (h.dj b hq)), h.st.bel.trans (h2.below h.st.bel.size h.lo), h.st.lo⟩, h1, fun b hq => ?_, fun b hq => ?_⟩
  · rcases Nat.lt_or_ge b w.heap.size with hl | hl
    · exact h.dj b fun h0 => hq ((h3 b hl).2 h0)
    · exact h.st.new_zero hl
  · rcases Nat.lt_or_ge b w.heap.size with hl | hl
    · exact h.lo b fun h0 => hq ((h3 b hl).2 h0)
    · exact Nat.le_trans h.st.bel.size hl
def MkPo (w0 : World) (gs gm : Nat) (Q : Nat → Nat) (t s' : St) (W : World) : Prop := ∃ R', Two w0 W gs gm R' Q s' t
def RkPo (w0 : World) (gs gm : Nat) (R : Nat → Nat) (s t' : St) (W : World) : Prop := ∃ Q', Two w0 W gs gm R Q' s t'
theorem two_new {w0 w : World} {gs : Nat} {R : Nat → Nat} {s : St} {L : Nat} (h : StQ w0 w gs R s) (hL : L ≤ 1048576) : Two w0 (w.alloc (.cells #[.int .i64 (L : Nat), .int .i64 0, .slice none 0 0, .slice none 0 0] 32)) gs w.heap.size R (Rnew w.heap.size) s (St.new L) :=
  ⟨h.alloc _, rsw_new w L hL, fun b hb => by rw [Rnew_ne hb]; exact h.new_zero (Nat.le_refl _), fun b hb => by rw [Rnew_ne hb]; exact h.bel.size⟩

set_option maxRecDepth 100000 in
set_option maxHeartbeats 16000000 in
theorem built_any (v : Value) (es : List MkE) (w : World) (he : MksAt w v es) :
    Calls Try.prog 28 #[v] w fun e w' => ∃ gs gm R Q s, e = .returned (.tuple #[.pointer (some ⟨gs, 0, none⟩), .pointer (some ⟨gm, 0, none⟩)]) ∧ Two w w' gs gm R Q s s ∧ s.Kd := by
  obtain ⟨i0, hi, hz0, hz1, hz2⟩ := info_parts infoVal
  have HI := Lib.hid (And.intro hi (And.intro hz0 (And.intro hz1 hz2)))
  clear hi hz0 hz1 hz2
  have HE := Lib.hid he
  obtain ⟨ao, ec, rfl⟩ : ∃ ao ec, v = .slice ao es.length ec := by obtain ⟨us, ⟨_, _, ao, c, e, _⟩, _⟩ := he; exact ⟨ao, c, e⟩
  clear he
  go_enter Try.func28, Try.ntmps28
  go_wp2_with fail
  refine (qnew 2000 w _ (Below.refl _ _) (by omega)).mono ?_
  rintro e w1 ⟨gs, hg, rfl, hq, hb⟩
  have HT := Lib.hid (two_new hq (show 2000 ≤ 1048576 by omega))
  have HQ1 := Lib.hid hq
  clear hq hb hg
  go_upto_region 5 with fail
  generalize w1.alloc (.cells #[.int .i64 ((2000 : Nat) : Int), .int .i64 0, .slice none 0 0, .slice none 0 0] 32) = w2 at *
  clear HQ1
  generalize w1.heap.size = gm at *
  clear w1
  go_wp2_with fail
  go_loopw [7] (fun v wr => ∃ (i : Nat) (R Q : Nat → Nat) (s : St), i ≤ es.length ∧ v = .int .i64 (i : Nat) ∧ Two w wr gs gm R Q s s ∧ s.Kd) (fun v _ => es.length - (intOf v).toNat)
  case atStart => exact ⟨0, _, _, _, Nat.zero_le _, rfl, HT.out, fun o ho => (by cases ho)⟩
  case round =>
    obtain ⟨i, R, Q, s, hi, rfl, ht, hkd⟩ := hrel
    have HT3 := Lib.hid ht
    have HKD := Lib.hid hkd
    clear ht hkd HT
    by_cases hlt : i < es.length ∧ i < 60
    · have hii : ((i : Nat) : Int) < ((es.length : Nat) : Int) := by omega
      have h60 : ((i : Nat) : Int) < 60 := by omega
      obtain ⟨us, hru, hus⟩ := HE.out
      have hrow := (hus i hlt.1).2
      obtain ⟨eb, eo, cap, he, hel, c0, c1, c2, c3, c4⟩ := HE.out.at hlt.1
      injection he with he1 he2 he3
      subst he1 he3
      clear hus he2
      generalize es[i]'hlt.1 = me at *
      obtain ⟨ek, sv, l, bk, t0, t1⟩ := me
      simp only at c0 c1 c2 c3 c4 hrow
      obtain ⟨so, sc, rfl⟩ : ∃ so sc, sv = .slice so l.length sc := by obtain ⟨_, _, ao, c, e, _⟩ := hrow; exact ⟨ao, c, e⟩
      have hll : ∃ n, n = l.length := ⟨_, rfl⟩
      obtain ⟨n, hn⟩ := hll
      rw [← hn] at c1 hrow
      have HX := Lib.hid (show ∀ W, Below w.heap.size w W → W.cell? ⟨eb, eo + i * 5, none⟩ = some (.int .i64 ek) ∧ W.cell? ⟨eb, eo + i * 5 + 1, none⟩ = some (.slice so n sc) ∧ W.cell? ⟨eb, eo + i * 5 + 2, none⟩ = some (.int .i64 bk) ∧ W.cell? ⟨eb, eo + i * 5 + 3, none⟩ = some (.int .i64 t0) ∧ W.cell? ⟨eb, eo + i * 5 + 4, none⟩ = some (.int .i64 t1) from
        fun W hb => ⟨(hb.cell (p := ⟨eb, _, none⟩) hel).trans c0, (hb.cell (p := ⟨eb, _, none⟩) hel).trans c1, (hb.cell (p := ⟨eb, _, none⟩) hel).trans c2, (hb.cell (p := ⟨eb, _, none⟩) hel).trans c3, (hb.cell (p := ⟨eb, _, none⟩) hel).trans c4⟩)
      have HRV := Lib.hid (show ∀ W, Below wr.heap.size wr W → RowV W (.slice so n sc) n 2 (vcs l) from fun W hb => hrow.below (HT3.out.st.bel.trans (hb.mono HT3.out.st.bel.size)))
      have HRW := Lib.hid hrow
      have HN := Lib.hid hn
      clear c0 c1 c2 c3 c4 hrow hn hel hru us
      obtain ⟨_, k1, _⟩ := HX.out wr HT3.out.st.bel
      by_cases h30 : ((n : Nat) : Int) ≤ 30
      · go_upto_region 9 with fail
        have HMK := Lib.hid (show ∀ (W : World) (lv : Value), Below wr.heap.size wr W → RowV W lv n 2 (vcs l) → Calls Try.prog 17 #[.pointer (some ⟨gs, 0, none⟩), .int .i64 ek, lv] W fun e W' => e = .returned (.tuple #[.agg #[.int .i64 (s.make ek l).1.1.1, .int .i64 (s.make ek l).1.1.2], .int .i64 (s.make ek l).1.2]) ∧ MkPo w gs gm Q s (s.make ek l).2 W' from
          fun W lv hb hr => (stmake_any gs R s ek lv l W (HT3.out.below hb).st.st (HN.out ▸ hr) (by have := HN.out; omega)).mono fun e W' ⟨h1, h2⟩ => ⟨h1, (HT3.out.below hb).step ((HT3.out.below hb).st.step h2)⟩)
        clear k1
        refine wp_region_vals (fun L vals W => AllV [some (.pointer (some ⟨gs, 0, none⟩)), some (.slice (some ⟨eb, eo, none⟩) es.length ec), some (.int .i64 ((i : Nat) : Int)), some (.pointer (some ⟨eb, eo + i * 5, none⟩)), some (.pointer (some ⟨eb, eo + i * 5, none⟩)), some (.int .i64 ek), none, some (.slice (some ⟨eb, eo, none⟩) es.length ec), some (.int .i64 ((i : Nat) : Int)), some (.pointer (some ⟨eb, eo + i * 5, none⟩)), some (.pointer (some ⟨eb, eo + i * 5 + 1, none⟩)), some (.slice so n sc), none, none] L vals ∧ Ph 13 14 (fun W => Below wr.heap.size wr W) (fun _ W => MkPo w gs gm Q s (s.make ek l).2 W) (fun _ W => MkPo w gs gm Q s (s.make ek l).2 W) L vals W ∧ Ph 12 13 (fun _ => True) (fun v W => W.ownsRow wr.heap.size 35 2 v n (vcs l)) (fun _ _ => True) L vals W ∧ Ph 6 12 (fun _ => True) (fun v W => ∃ b, v = .slice (some ⟨b, 0, none⟩) 0 0 ∧ wr.heap.size ≤ b ∧ W.heap[b]? = some (.cells #[] 35 (0, 0))) (fun _ _ => True) L vals W) (by kernel_rfl) ?_ (by kernel_rfl) (by kernel_rfl) ?_ ?_
        · exact ⟨AllV.start _ _, Ph.start (Below.refl _ _).drew, Ph.start trivial, Ph.start trivial⟩
        · refine AllOps.cons ?_ ?_
          · intro L vals aa W hC hB hL hD hdep
            obtain ⟨hV, hP0, hP1, hP2⟩ := hC
            refine .inl ⟨rfl, ?_⟩
            have b0 : aa.tmps.getD 4 undef = .pointer (some ⟨gs, 0, none⟩) := hB.off 4 (by kernel_rfl)
            refine goesV_value (v := .pointer (some ⟨gs, 0, none⟩)) ?_ ⟨hV.fix rfl, hP0.idle (by decide) (by decide) _, hP1.idle (by decide) (by decide) _, hP2.idle (by decide) (by decide) _⟩
            simp only [execOp, Act.eval, b0]
            go_simp
          refine AllOps.cons ?_ ?_
          · intro L vals aa W hC hB hL hD hdep
            obtain ⟨hV, hP0, hP1, hP2⟩ := hC
            refine .inl ⟨rfl, ?_⟩
            have b0 : aa.tmps.getD 0 undef = .slice (some ⟨eb, eo, none⟩) es.length ec := hB.off 0 (by kernel_rfl)
            refine goesV_value (v := .slice (some ⟨eb, eo, none⟩) es.length ec) ?_ ⟨hV.fix rfl, hP0.idle (by decide) (by decide) _, hP1.idle (by decide) (by decide) _, hP2.idle (by decide) (by decide) _⟩
            simp only [execOp, Act.eval, b0]
            go_simp
          refine AllOps.cons ?_ ?_
          · intro L vals aa W hC hB hL hD hdep
            obtain ⟨hV, hP0, hP1, hP2⟩ := hC
            refine .inl ⟨rfl, ?_⟩
            have b0 : aa.tmps.getD 7 undef = .int .i64 ((i : Nat) : Int) := hB.off 7 (by kernel_rfl)
            refine goesV_value (v := .int .i64 ((i : Nat) : Int)) ?_ ⟨hV.fix rfl, hP0.idle (by decide) (by decide) _, hP1.idle (by decide) (by decide) _, hP2.idle (by decide) (by decide) _⟩
            simp only [execOp, Act.eval, b0]
            go_simp
          refine AllOps.cons ?_ ?_
          · intro L vals aa W hC hB hL hD hdep
            obtain ⟨hV, hP0, hP1, hP2⟩ := hC
            refine .inl ⟨rfl, ?_⟩
            have e0 : aa.tmps.getD 36 undef = .slice (some ⟨eb, eo, none⟩) es.length ec := hV.at (j := 1) rfl (hdep 1 36 (by kernel_rfl))
            have e1 : aa.tmps.getD 37 undef = .int .i64 ((i : Nat) : Int) := hV.at (j := 2) rfl (hdep 2 37 (by kernel_rfl))
            refine goesV_value (v := .pointer (some ⟨eb, eo + i * 5, none⟩)) ?_ ⟨hV.fix rfl, hP0.idle (by decide) (by decide) _, hP1.idle (by decide) (by decide) _, hP2.idle (by decide) (by decide) _⟩
            simp only [execOp, Act.eval, e0, e1]
            go_simp
          refine AllOps.cons ?_ ?_
          · intro L vals aa W hC hB hL hD hdep
            obtain ⟨hV, hP0, hP1, hP2⟩ := hC
            refine .inl ⟨rfl, ?_⟩
            have e0 : aa.tmps.getD 38 undef = .pointer (some ⟨eb, eo + i * 5, none⟩) := hV.at (j := 3) rfl (hdep 3 38 (by kernel_rfl))
            refine goesV_value (v := .pointer (some ⟨eb, eo + i * 5, none⟩)) ?_ ⟨hV.fix rfl, hP0.idle (by decide) (by decide) _, hP1.idle (by decide) (by decide) _, hP2.idle (by decide) (by decide) _⟩
            simp only [execOp, Act.eval, e0]
            go_simp
          refine AllOps.cons ?_ ?_
          · intro L vals aa W hC hB hL hD hdep
            obtain ⟨hV, hP0, hP1, hP2⟩ := hC
            refine .inl ⟨rfl, ?_⟩
            have e0 : aa.tmps.getD 39 undef = .pointer (some ⟨eb, eo + i * 5, none⟩) := hV.at (j := 4) rfl (hdep 4 39 (by kernel_rfl))
            have hpre := hP0.pre (hD 13 (by kernel_rfl))
            obtain ⟨k0, k1, k2, k3, k4⟩ := HX.out W (HT3.out.st.bel.trans (hpre.mono HT3.out.st.bel.size))
            refine goesV_value (v := .int .i64 ek) ?_ ⟨hV.fix rfl, hP0.idle (by decide) (by decide) _, hP1.idle (by decide) (by decide) _, hP2.idle (by decide) (by decide) _⟩
            simp only [execOp, Act.eval, e0]
            go_simp
          refine AllOps.cons ?_ ?_
          · intro L vals aa W hC hB hL hD hdep
            obtain ⟨hV, hP0, hP1, hP2⟩ := hC
            refine .inl ⟨rfl, ?_⟩
            have hpre := hP0.pre (hD 13 (by kernel_rfl))
            refine goesV_world (v := .slice (some ⟨W.heap.size, 0, none⟩) 0 0) (w1 := W.alloc (.cells #[] 35)) ?_ ⟨hV.free rfl, hP0.ahead (hD 13 (by kernel_rfl)) (by decide) (by decide) _ (hpre.trans ((below1 W _).mono hpre.size)), hP1.ahead (hD 12 (by kernel_rfl)) (by decide) (by decide) _ trivial, hP2.first hL (by decide) ⟨_, rfl, hpre.size, box1 W _ _⟩⟩
            simp only [execOp]
            go_simp
          refine AllOps.cons ?_ ?_
          · intro L vals aa W hC hB hL hD hdep
            obtain ⟨hV, hP0, hP1, hP2⟩ := hC
            refine .inl ⟨rfl, ?_⟩
            have b0 : aa.tmps.getD 0 undef = .slice (some ⟨eb, eo, none⟩) es.length ec := hB.off 0 (by kernel_rfl)
            refine goesV_value (v := .slice (some ⟨eb, eo, none⟩) es.length ec) ?_ ⟨hV.fix rfl, hP0.idle (by decide) (by decide) _, hP1.idle (by decide) (by decide) _, hP2.idle (by decide) (by decide) _⟩
            simp only [execOp, Act.eval, b0]
            go_simp
          refine AllOps.cons ?_ ?_
          · intro L vals aa W hC hB hL hD hdep
            obtain ⟨hV, hP0, hP1, hP2⟩ := hC
            refine .inl ⟨rfl, ?_⟩
            have b0 : aa.tmps.getD 7 undef = .int .i64 ((i : Nat) : Int) := hB.off 7 (by kernel_rfl)
            refine goesV_value (v := .int .i64 ((i : Nat) : Int)) ?_ ⟨hV.fix rfl, hP0.idle (by decide) (by decide) _, hP1.idle (by decide) (by decide) _, hP2.idle (by decide) (by decide) _⟩
            simp only [execOp, Act.eval, b0]
            go_simp
          refine AllOps.cons ?_ ?_
          · intro L vals aa W hC hB hL hD hdep
            obtain ⟨hV, hP0, hP1, hP2⟩ := hC
            refine .inl ⟨rfl, ?_⟩
            have e0 : aa.tmps.getD 42 undef = .slice (some ⟨eb, eo, none⟩) es.length ec := hV.at (j := 7) rfl (hdep 7 42 (by kernel_rfl))
            have e1 : aa.tmps.getD 43 undef = .int .i64 ((i : Nat) : Int) := hV.at (j := 8) rfl (hdep 8 43 (by kernel_rfl))
            refine goesV_value (v := .pointer (some ⟨eb, eo + i * 5, none⟩)) ?_ ⟨hV.fix rfl, hP0.idle (by decide) (by decide) _, hP1.idle (by decide) (by decide) _, hP2.idle (by decide) (by decide) _⟩
            simp only [execOp, Act.eval, e0, e1]
            go_simp
          refine AllOps.cons ?_ ?_
          · intro L vals aa W hC hB hL hD hdep
            obtain ⟨hV, hP0, hP1, hP2⟩ := hC
            refine .inl ⟨rfl, ?_⟩
            have e0 : aa.tmps.getD 44 undef = .pointer (some ⟨eb, eo + i * 5, none⟩) := hV.at (j := 9) rfl (hdep 9 44 (by kernel_rfl))
            refine goesV_value (v := .pointer (some ⟨eb, eo + i * 5 + 1, none⟩)) ?_ ⟨hV.fix rfl, hP0.idle (by decide) (by decide) _, hP1.idle (by decide) (by decide) _, hP2.idle (by decide) (by decide) _⟩
            simp only [execOp, Act.eval, e0]
            go_simp
          refine AllOps.cons ?_ ?_
          · intro L vals aa W hC hB hL hD hdep
            obtain ⟨hV, hP0, hP1, hP2⟩ := hC
            refine .inl ⟨rfl, ?_⟩
            have e0 : aa.tmps.getD 45 undef = .pointer (some ⟨eb, eo + i * 5 + 1, none⟩) := hV.at (j := 10) rfl (hdep 10 45 (by kernel_rfl))
            have hpre := hP0.pre (hD 13 (by kernel_rfl))
            obtain ⟨k0, k1, k2, k3, k4⟩ := HX.out W (HT3.out.st.bel.trans (hpre.mono HT3.out.st.bel.size))
            refine goesV_value (v := .slice so n sc) ?_ ⟨hV.fix rfl, hP0.idle (by decide) (by decide) _, hP1.idle (by decide) (by decide) _, hP2.idle (by decide) (by decide) _⟩
            simp only [execOp, Act.eval, e0]
            go_simp
          refine AllOps.cons ?_ ?_
          · intro L vals aa W hC hB hL hD hdep
            obtain ⟨hV, hP0, hP1, hP2⟩ := hC
            refine .inl ⟨rfl, ?_⟩
            have e0 : aa.tmps.getD 46 undef = .slice so n sc := hV.at (j := 11) rfl (hdep 11 46 (by kernel_rfl))
            obtain ⟨l1, e1⟩ := hdep 6 41 (by kernel_rfl)
            have hpre := hP0.pre (hD 13 (by kernel_rfl))
            obtain ⟨nb, hnb, hge, hcells⟩ := hP2.mid l1 hL
            rw [hnb] at e1
            refine goesV_appendR _ _ 33 rfl wr.heap.size 35 i0 _ 2 16 Try.underlying33 HI.out.1 HI.out.2.1 HI.out.2.2.1 HI.out.2.2.2 rfl (by decide) (.slice (some ⟨nb, 0, none⟩) 0 0) 0 [] e1 ⟨rfl, .inr ⟨nb, 0, #[], rfl, hge, hcells, Nat.le_refl _, Nat.zero_le _, rfl, rfl⟩⟩ (.slice so n sc) n (vcs l) e0 (HRV.out W hpre) (vcs_one l) (by unfold maxLen; omega) (by omega) hpre.size ?_
            intro v5 w5 hown5 hgrow5 hmv5
            rw [Nat.zero_add, List.nil_append] at hown5
            exact ⟨hV.free rfl, hP0.ahead (hD 13 (by kernel_rfl)) (by decide) (by decide) _ (hpre.grown hgrow5 hpre.size (fun q hq => by injection hq with hq; simp only at hq; omega)), hP1.first hL (by decide) hown5, Ph.last l1 (by decide) _ trivial⟩
          refine AllOps.cons ?_ ?_
          · intro L vals aa W hC hB hL hD hdep
            obtain ⟨hV, hP0, hP1, hP2⟩ := hC
            refine .inl ⟨rfl, ?_⟩
            have e0 : aa.tmps.getD 35 undef = .pointer (some ⟨gs, 0, none⟩) := hV.at (j := 0) rfl (hdep 0 35 (by kernel_rfl))
            have e1 : aa.tmps.getD 40 undef = .int .i64 ek := hV.at (j := 5) rfl (hdep 5 40 (by kernel_rfl))
            obtain ⟨l2, e2⟩ := hdep 12 47 (by kernel_rfl)
            have hpre := hP0.pre hL
            have hown := hP1.mid l2 hL
            obtain ⟨vo, vc, hvv⟩ := own_dslice hown
            rw [hvv] at e2 hown
            refine goesV_call (f := 17) (args := #[.pointer (some ⟨gs, 0, none⟩), .int .i64 ek, .slice vo n vc]) ?_ ?_
            · simp only [execOp]
              go_simp
            · exact (HMK.out W (.slice vo n vc) hpre (RowV.of_own hown)).mono fun e w7 ⟨he, hp⟩ => ⟨_, he, hV.free rfl, hP0.first hL (by decide) hp, Ph.last l2 (by decide) _ trivial, Ph.done l2 (hP2.ord l2) (by decide) (by decide) _ trivial⟩
          exact trivial
        · intro L vals aa w8 hC hLL hB hall
          obtain ⟨hV, hP0, hP1, hP2⟩ := hC
          have hv : ∀ p ∈ [((35 : Nat), (.pointer (some ⟨gs, 0, none⟩) : Value)), ((36 : Nat), (.slice (some ⟨eb, eo, none⟩) es.length ec : Value)), ((37 : Nat), (.int .i64 ((i : Nat) : Int) : Value)), ((38 : Nat), (.pointer (some ⟨eb, eo + i * 5, none⟩) : Value)), ((39 : Nat), (.pointer (some ⟨eb, eo + i * 5, none⟩) : Value)), ((40 : Nat), (.int .i64 ek : Value)), ((41 : Nat), (vals 6 : Value)), ((42 : Nat), (.slice (some ⟨eb, eo, none⟩) es.length ec : Value)), ((43 : Nat), (.int .i64 ((i : Nat) : Int) : Value)), ((44 : Nat), (.pointer (some ⟨eb, eo + i * 5, none⟩) : Value)), ((45 : Nat), (.pointer (some ⟨eb, eo + i * 5 + 1, none⟩) : Value)), ((46 : Nat), (.slice so n sc : Value)), ((47 : Nat), (vals 12 : Value)), ((48 : Nat), (vals 13 : Value))], aa.tmps.getD p.1 undef = p.2 := by
            intro p hp
            simp only [List.mem_cons, List.not_mem_nil, or_false] at hp
            rcases hp with rfl | rfl | rfl | rfl | rfl | rfl | rfl | rfl | rfl | rfl | rfl | rfl | rfl | rfl
            · exact (hall 0 _ rfl _ rfl).trans (hV 0 _ rfl (hLL 0 (Nat.le_of_ble_eq_true rfl)))
            · exact (hall 1 _ rfl _ rfl).trans (hV 1 _ rfl (hLL 1 (Nat.le_of_ble_eq_true rfl)))
            · exact (hall 2 _ rfl _ rfl).trans (hV 2 _ rfl (hLL 2 (Nat.le_of_ble_eq_true rfl)))
            · exact (hall 3 _ rfl _ rfl).trans (hV 3 _ rfl (hLL 3 (Nat.le_of_ble_eq_true rfl)))
            · exact (hall 4 _ rfl _ rfl).trans (hV 4 _ rfl (hLL 4 (Nat.le_of_ble_eq_true rfl)))
            · exact (hall 5 _ rfl _ rfl).trans (hV 5 _ rfl (hLL 5 (Nat.le_of_ble_eq_true rfl)))
            · exact hall 6 _ rfl _ rfl
            · exact (hall 7 _ rfl _ rfl).trans (hV 7 _ rfl (hLL 7 (Nat.le_of_ble_eq_true rfl)))
            · exact (hall 8 _ rfl _ rfl).trans (hV 8 _ rfl (hLL 8 (Nat.le_of_ble_eq_true rfl)))
            · exact (hall 9 _ rfl _ rfl).trans (hV 9 _ rfl (hLL 9 (Nat.le_of_ble_eq_true rfl)))
            · exact (hall 10 _ rfl _ rfl).trans (hV 10 _ rfl (hLL 10 (Nat.le_of_ble_eq_true rfl)))
            · exact (hall 11 _ rfl _ rfl).trans (hV 11 _ rfl (hLL 11 (Nat.le_of_ble_eq_true rfl)))
            · exact hall 12 _ rfl _ rfl
            · exact hall 13 _ rfl _ rfl
          have hact := act_fold _ hB hv (by kernel_rfl)
          subst hact
          have hfin := (show MkPo w gs gm Q s (s.make ek l).2 w8 from (match h : L 14 with | false => hP0.mid (hLL 13 (Nat.le_of_ble_eq_true rfl)) h | true => hP0.fin h))
          clear hv hall hB hV hLL hP0 hP1 hP2
          refine (‹∀ (a : Act) (w : World), Code.wp Try.prog _ _ a w → _›) _ w8 ?_
          simp only [List.foldl, List.setIfInBounds_toArray, List.set_cons_succ, List.set_cons_zero]
          obtain ⟨R9, ht4⟩ := hfin
          have HT4 := Lib.hid ht4
          clear ht4
          have HRK := Lib.hid (show ∀ (W : World), Below w8.heap.size w8 W → Calls Try.prog 40 #[.pointer (some ⟨gm, 0, none⟩), .int .i64 ek, .slice so n sc] W fun e W' => e = .returned (.tuple #[.agg #[.int .i64 (s.make ek l).1.1.1, .int .i64 (s.make ek l).1.1.2], .int .i64 (s.make ek l).1.2]) ∧ RkPo w gs gm R9 (s.make ek l).2 (s.make ek l).2 W' from
            fun W hb => (rmake_any gm Q s ek (.slice so n sc) l W (HT4.out.below hb).rs (HN.out ▸ HRW.out.below (HT4.out.below hb).st.bel) (by have := HN.out; omega)).mono fun e W' ⟨h1, h2⟩ => ⟨h1, (HT4.out.below hb).rstep h2⟩)
          go_upto_region 10 with fail
          refine wp_region_vals (fun L vals W => AllV [some (.pointer (some ⟨gm, 0, none⟩)), some (.slice (some ⟨eb, eo, none⟩) es.length ec), some (.int .i64 ((i : Nat) : Int)), some (.pointer (some ⟨eb, eo + i * 5, none⟩)), some (.pointer (some ⟨eb, eo + i * 5, none⟩)), some (.int .i64 ek), some (.slice (some ⟨eb, eo, none⟩) es.length ec), some (.int .i64 ((i : Nat) : Int)), some (.pointer (some ⟨eb, eo + i * 5, none⟩)), some (.pointer (some ⟨eb, eo + i * 5 + 1, none⟩)), some (.slice so n sc), none] L vals ∧ Ph 11 12 (fun W => Below w8.heap.size w8 W) (fun _ W => RkPo w gs gm R9 (s.make ek l).2 (s.make ek l).2 W) (fun _ W => RkPo w gs gm R9 (s.make ek l).2 (s.make ek l).2 W) L vals W) (by kernel_rfl) ?_ (by kernel_rfl) (by kernel_rfl) ?_ ?_
          · exact ⟨AllV.start _ _, Ph.start (Below.refl _ _).drew⟩
          · refine AllOps.cons ?_ ?_
            · intro L vals aa W hC hB hL hD hdep
              obtain ⟨hV, hP0⟩ := hC
              refine .inl ⟨rfl, ?_⟩
              have b0 : aa.tmps.getD 6 undef = .pointer (some ⟨gm, 0, none⟩) := hB.off 6 (by kernel_rfl)
              refine goesV_value (v := .pointer (some ⟨gm, 0, none⟩)) ?_ ⟨hV.fix rfl, hP0.idle (by decide) (by decide) _⟩
              simp only [execOp, Act.eval, b0]
              go_simp
            refine AllOps.cons ?_ ?_
            · intro L vals aa W hC hB hL hD hdep
              obtain ⟨hV, hP0⟩ := hC
              refine .inl ⟨rfl, ?_⟩
              have b0 : aa.tmps.getD 0 undef = .slice (some ⟨eb, eo, none⟩) es.length ec := hB.off 0 (by kernel_rfl)
              refine goesV_value (v := .slice (some ⟨eb, eo, none⟩) es.length ec) ?_ ⟨hV.fix rfl, hP0.idle (by decide) (by decide) _⟩
              simp only [execOp, Act.eval, b0]
              go_simp
            refine AllOps.cons ?_ ?_
            · intro L vals aa W hC hB hL hD hdep
              obtain ⟨hV, hP0⟩ := hC
              refine .inl ⟨rfl, ?_⟩
              have b0 : aa.tmps.getD 7 undef = .int .i64 ((i : Nat) : Int) := hB.off 7 (by kernel_rfl)
              refine goesV_value (v := .int .i64 ((i : Nat) : Int)) ?_ ⟨hV.fix rfl, hP0.idle (by decide) (by decide) _⟩
              simp only [execOp, Act.eval, b0]
              go_simp
            refine AllOps.cons ?_ ?_
            · intro L vals aa W hC hB hL hD hdep
              obtain ⟨hV, hP0⟩ := hC
              refine .inl ⟨rfl, ?_⟩
              have e0 : aa.tmps.getD 50 undef = .slice (some ⟨eb, eo, none⟩) es.length ec := hV.at (j := 1) rfl (hdep 1 50 (by kernel_rfl))
              have e1 : aa.tmps.getD 51 undef = .int .i64 ((i : Nat) : Int) := hV.at (j := 2) rfl (hdep 2 51 (by kernel_rfl))
              refine goesV_value (v := .pointer (some ⟨eb, eo + i * 5, none⟩)) ?_ ⟨hV.fix rfl, hP0.idle (by decide) (by decide) _⟩
              simp only [execOp, Act.eval, e0, e1]
              go_simp
            refine AllOps.cons ?_ ?_
            · intro L vals aa W hC hB hL hD hdep
              obtain ⟨hV, hP0⟩ := hC
              refine .inl ⟨rfl, ?_⟩
              have e0 : aa.tmps.getD 52 undef = .pointer (some ⟨eb, eo + i * 5, none⟩) := hV.at (j := 3) rfl (hdep 3 52 (by kernel_rfl))
              refine goesV_value (v := .pointer (some ⟨eb, eo + i * 5, none⟩)) ?_ ⟨hV.fix rfl, hP0.idle (by decide) (by decide) _⟩
              simp only [execOp, Act.eval, e0]
              go_simp
            refine AllOps.cons ?_ ?_
            · intro L vals aa W hC hB hL hD hdep
              obtain ⟨hV, hP0⟩ := hC
              refine .inl ⟨rfl, ?_⟩
              have e0 : aa.tmps.getD 53 undef = .pointer (some ⟨eb, eo + i * 5, none⟩) := hV.at (j := 4) rfl (hdep 4 53 (by kernel_rfl))
              have hpre := hP0.pre (hD 11 (by kernel_rfl))
              obtain ⟨k0, k1, k2, k3, k4⟩ := HX.out W (HT4.out.st.bel.trans (hpre.mono HT4.out.st.bel.size))
              refine goesV_value (v := .int .i64 ek) ?_ ⟨hV.fix rfl, hP0.idle (by decide) (by decide) _⟩
              simp only [execOp, Act.eval, e0]
              go_simp
            refine AllOps.cons ?_ ?_
            · intro L vals aa W hC hB hL hD hdep
              obtain ⟨hV, hP0⟩ := hC
              refine .inl ⟨rfl, ?_⟩
              have b0 : aa.tmps.getD 0 undef = .slice (some ⟨eb, eo, none⟩) es.length ec := hB.off 0 (by kernel_rfl)
              refine goesV_value (v := .slice (some ⟨eb, eo, none⟩) es.length ec) ?_ ⟨hV.fix rfl, hP0.idle (by decide) (by decide) _⟩
              simp only [execOp, Act.eval, b0]
              go_simp
            refine AllOps.cons ?_ ?_
            · intro L vals aa W hC hB hL hD hdep
              obtain ⟨hV, hP0⟩ := hC
              refine .inl ⟨rfl, ?_⟩
              have b0 : aa.tmps.getD 7 undef = .int .i64 ((i : Nat) : Int) := hB.off 7 (by kernel_rfl)
              refine goesV_value (v := .int .i64 ((i : Nat) : Int)) ?_ ⟨hV.fix rfl, hP0.idle (by decide) (by decide) _⟩
              simp only [execOp, Act.eval, b0]
              go_simp
            refine AllOps.cons ?_ ?_
            · intro L vals aa W hC hB hL hD hdep
              obtain ⟨hV, hP0⟩ := hC
              refine .inl ⟨rfl, ?_⟩
              have e0 : aa.tmps.getD 55 undef = .slice (some ⟨eb, eo, none⟩) es.length ec := hV.at (j := 6) rfl (hdep 6 55 (by kernel_rfl))
              have e1 : aa.tmps.getD 56 undef = .int .i64 ((i : Nat) : Int) := hV.at (j := 7) rfl (hdep 7 56 (by kernel_rfl))
              refine goesV_value (v := .pointer (some ⟨eb, eo + i * 5, none⟩)) ?_ ⟨hV.fix rfl, hP0.idle (by decide) (by decide) _⟩
              simp only [execOp, Act.eval, e0, e1]
              go_simp
            refine AllOps.cons ?_ ?_
            · intro L vals aa W hC hB hL hD hdep
              obtain ⟨hV, hP0⟩ := hC
              refine .inl ⟨rfl, ?_⟩
              have e0 : aa.tmps.getD 57 undef = .pointer (some ⟨eb, eo + i * 5, none⟩) := hV.at (j := 8) rfl (hdep 8 57 (by kernel_rfl))
              refine goesV_value (v := .pointer (some ⟨eb, eo + i * 5 + 1, none⟩)) ?_ ⟨hV.fix rfl, hP0.idle (by decide) (by decide) _⟩
              simp only [execOp, Act.eval, e0]
              go_simp
            refine AllOps.cons ?_ ?_
            · intro L vals aa W hC hB hL hD hdep
              obtain ⟨hV, hP0⟩ := hC
              refine .inl ⟨rfl, ?_⟩
              have e0 : aa.tmps.getD 58 undef = .pointer (some ⟨eb, eo + i * 5 + 1, none⟩) := hV.at (j := 9) rfl (hdep 9 58 (by kernel_rfl))
              have hpre := hP0.pre (hD 11 (by kernel_rfl))
              obtain ⟨k0, k1, k2, k3, k4⟩ := HX.out W (HT4.out.st.bel.trans (hpre.mono HT4.out.st.bel.size))
              refine goesV_value (v := .slice so n sc) ?_ ⟨hV.fix rfl, hP0.idle (by decide) (by decide) _⟩
              simp only [execOp, Act.eval, e0]
              go_simp
            refine AllOps.cons ?_ ?_
            · intro L vals aa W hC hB hL hD hdep
              obtain ⟨hV, hP0⟩ := hC
              refine .inl ⟨rfl, ?_⟩
              have e0 : aa.tmps.getD 49 undef = .pointer (some ⟨gm, 0, none⟩) := hV.at (j := 0) rfl (hdep 0 49 (by kernel_rfl))
              have e1 : aa.tmps.getD 54 undef = .int .i64 ek := hV.at (j := 5) rfl (hdep 5 54 (by kernel_rfl))
              have e2 : aa.tmps.getD 59 undef = .slice so n sc := hV.at (j := 10) rfl (hdep 10 59 (by kernel_rfl))
              have hpre := hP0.pre hL
              refine goesV_call (f := 40) (args := #[.pointer (some ⟨gm, 0, none⟩), .int .i64 ek, .slice so n sc]) ?_ ?_
              · simp only [execOp]
                go_simp
              · exact (HRK.out W hpre).mono fun e w7 ⟨he, hp⟩ => ⟨_, he, hV.free rfl, hP0.first hL (by decide) hp⟩
            exact trivial
          · intro L vals aa w9 hC hLL hB hall
            obtain ⟨hV, hP0⟩ := hC
            have hv : ∀ p ∈ [((49 : Nat), (.pointer (some ⟨gm, 0, none⟩) : Value)), ((50 : Nat), (.slice (some ⟨eb, eo, none⟩) es.length ec : Value)), ((51 : Nat), (.int .i64 ((i : Nat) : Int) : Value)), ((52 : Nat), (.pointer (some ⟨eb, eo + i * 5, none⟩) : Value)), ((53 : Nat), (.pointer (some ⟨eb, eo + i * 5, none⟩) : Value)), ((54 : Nat), (.int .i64 ek : Value)), ((55 : Nat), (.slice (some ⟨eb, eo, none⟩) es.length ec : Value)), ((56 : Nat), (.int .i64 ((i : Nat) : Int) : Value)), ((57 : Nat), (.pointer (some ⟨eb, eo + i * 5, none⟩) : Value)), ((58 : Nat), (.pointer (some ⟨eb, eo + i * 5 + 1, none⟩) : Value)), ((59 : Nat), (.slice so n sc : Value)), ((60 : Nat), (vals 11 : Value))], aa.tmps.getD p.1 undef = p.2 := by
              intro p hp
              simp only [List.mem_cons, List.not_mem_nil, or_false] at hp
              rcases hp with rfl | rfl | rfl | rfl | rfl | rfl | rfl | rfl | rfl | rfl | rfl | rfl
              · exact (hall 0 _ rfl _ rfl).trans (hV 0 _ rfl (hLL 0 (Nat.le_of_ble_eq_true rfl)))
              · exact (hall 1 _ rfl _ rfl).trans (hV 1 _ rfl (hLL 1 (Nat.le_of_ble_eq_true rfl)))
              · exact (hall 2 _ rfl _ rfl).trans (hV 2 _ rfl (hLL 2 (Nat.le_of_ble_eq_true rfl)))
              · exact (hall 3 _ rfl _ rfl).trans (hV 3 _ rfl (hLL 3 (Nat.le_of_ble_eq_true rfl)))
              · exact (hall 4 _ rfl _ rfl).trans (hV 4 _ rfl (hLL 4 (Nat.le_of_ble_eq_true rfl)))
              · exact (hall 5 _ rfl _ rfl).trans (hV 5 _ rfl (hLL 5 (Nat.le_of_ble_eq_true rfl)))
              · exact (hall 6 _ rfl _ rfl).trans (hV 6 _ rfl (hLL 6 (Nat.le_of_ble_eq_true rfl)))
              · exact (hall 7 _ rfl _ rfl).trans (hV 7 _ rfl (hLL 7 (Nat.le_of_ble_eq_true rfl)))
              · exact (hall 8 _ rfl _ rfl).trans (hV 8 _ rfl (hLL 8 (Nat.le_of_ble_eq_true rfl)))
              · exact (hall 9 _ rfl _ rfl).trans (hV 9 _ rfl (hLL 9 (Nat.le_of_ble_eq_true rfl)))
              · exact (hall 10 _ rfl _ rfl).trans (hV 10 _ rfl (hLL 10 (Nat.le_of_ble_eq_true rfl)))
              · exact hall 11 _ rfl _ rfl
            have hact := act_fold _ hB hv (by kernel_rfl)
            subst hact
            have hfin := (show RkPo w gs gm R9 (s.make ek l).2 (s.make ek l).2 w9 from (match h : L 12 with | false => hP0.mid (hLL 11 (Nat.le_of_ble_eq_true rfl)) h | true => hP0.fin h))
            clear hv hall hB hV hLL hP0
            refine (‹∀ (a : Act) (w : World), Code.wp Try.prog _ _ a w → _›) _ w9 ?_
            simp only [List.foldl, List.setIfInBounds_toArray, List.set_cons_succ, List.set_cons_zero]
            obtain ⟨Q9, ht5⟩ := hfin
            have HT5 := Lib.hid ht5
            clear ht5
            go_wp2_with fail
            go_roundw
            case measure => simp only [intOf]; omega
            case rel => exact ⟨i + 1, R9, Q9, _, by omega, by go_num, HT5.out, Kd_make HKD.out⟩
      · go_wp2_with fail
        go_roundw
        case measure => simp only [intOf]; omega
        case rel => exact ⟨i + 1, R, Q, s, by omega, by go_num, HT3.out, HKD.out⟩
    · have hexit : (¬ ((i : Nat) : Int) < ((es.length : Nat) : Int)) ∨ (((i : Nat) : Int) < ((es.length : Nat) : Int) ∧ ¬ ((i : Nat) : Int) < 60) := by omega
      clear hlt hi
      obtain ⟨W0, hW0⟩ : ∃ W0, W0 = wr := ⟨_, rfl⟩
      subst hW0
      rcases hexit with hx | ⟨hx, hy⟩
      all_goals
        go_upto_region 11 with fail
        go_wp2_with fail
        go_loopw [8] (fun v wr => ∃ (i : Nat) (R Q : Nat → Nat) (s : St), i ≤ es.length ∧ v = .int .i64 (i : Nat) ∧ Two w wr gs gm R Q s s ∧ s.Kd) (fun v _ => es.length - (intOf v).toNat)
        case atStart => exact ⟨0, _, _, _, Nat.zero_le _, rfl, HT3.out, HKD.out⟩
        case round =>
          clear HT3 HKD hx
          try clear hy
          clear R Q s
          obtain ⟨i, R, Q, s, hi, rfl, ht, hkd⟩ := hrel
          have HT0 := Lib.hid ht
          have HKD := Lib.hid hkd
          clear ht hkd
          by_cases hlt : i < es.length ∧ i < 60
          · have hii : ((i : Nat) : Int) < ((es.length : Nat) : Int) := by omega
            have h60 : ((i : Nat) : Int) < 60 := by omega
            obtain ⟨eb, eo, cap, he, hel, c0, c1, c2, c3, c4⟩ := HE.out.at hlt.1
            injection he with he1 he2 he3
            subst he1 he3
            clear he2
            generalize es[i]'hlt.1 = me at *
            obtain ⟨ek, sv, l, bk, t0, t1⟩ := me
            simp only at c0 c1 c2 c3 c4
            have HX := Lib.hid (show ∀ W, Below w.heap.size w W → W.cell? ⟨eb, eo + i * 5, none⟩ = some (.int .i64 ek) ∧ W.cell? ⟨eb, eo + i * 5 + 1, none⟩ = some sv ∧ W.cell? ⟨eb, eo + i * 5 + 2, none⟩ = some (.int .i64 bk) ∧ W.cell? ⟨eb, eo + i * 5 + 3, none⟩ = some (.int .i64 t0) ∧ W.cell? ⟨eb, eo + i * 5 + 4, none⟩ = some (.int .i64 t1) from
              fun W hb => ⟨(hb.cell (p := ⟨eb, _, none⟩) hel).trans c0, (hb.cell (p := ⟨eb, _, none⟩) hel).trans c1, (hb.cell (p := ⟨eb, _, none⟩) hel).trans c2, (hb.cell (p := ⟨eb, _, none⟩) hel).trans c3, (hb.cell (p := ⟨eb, _, none⟩) hel).trans c4⟩)
            clear c0 c1 c2 c3 c4 hel
            have HBX := Lib.hid (Bx.new HT0.out.st (7, ((i : Nat) : Int)))
            have HT3 := Lib.hid (HT0.out.below (below1 wr (.cells #[.int .i64 7, .int .i64 ((i : Nat) : Int)] 35)))
            clear HT0
            go_upto_region 15 with fail
            generalize wr.alloc (.cells #[.int .i64 7, .int .i64 ((i : Nat) : Int)] 35) = w3 at *
            generalize wr.heap.size = vb at *
            clear wr
            have HST := Lib.hid (show ∀ (W : World), Below w3.heap.size w3 W → Calls Try.prog 19 #[.pointer (some ⟨gs, 0, none⟩), .agg #[.int .i64 7, .int .i64 ((i : Nat) : Int)], .int .i64 bk, .agg #[.int .i64 t0, .int .i64 t1]] W fun e W' => e = .returned (.int .i64 (s.setA (7, ((i : Nat) : Int)) bk (t0, t1)).1) ∧ MkPo w gs gm Q s (s.setA (7, ((i : Nat) : Int)) bk (t0, t1)).2 W' ∧ W'.heap[vb]? = some (.cells #[.int .i64 7, .int .i64 ((i : Nat) : Int)] 35 (0, 0)) from
              fun W hb => (stset_any gs R s (7, ((i : Nat) : Int)) bk (t0, t1) W (HT3.out.below hb).st.st).mono fun e W' ⟨h1, h2⟩ => ⟨h1, (HT3.out.below hb).step ((HT3.out.below hb).st.step h2), by
                obtain ⟨R', _, hf, hr⟩ := h2
                exact ((HBX.out.below hb).keep hf hr).cells⟩)
            refine wp_region_vals (fun L vals W => AllV [some (.pointer (some ⟨gs, 0, none⟩)), some (.agg #[.int .i64 7, .int .i64 ((i : Nat) : Int)]), some (.slice (some ⟨eb, eo, none⟩) es.length ec), some (.int .i64 ((i : Nat) : Int)), some (.pointer (some ⟨eb, eo + i * 5, none⟩)), some (.pointer (some ⟨eb, eo + i * 5 + 2, none⟩)), some (.int .i64 bk), some (.slice (some ⟨eb, eo, none⟩) es.length ec), some (.int .i64 ((i : Nat) : Int)), some (.pointer (some ⟨eb, eo + i * 5, none⟩)), some (.pointer (some ⟨eb, eo + i * 5 + 3, none⟩)), some (.agg #[.int .i64 t0, .int .i64 t1]), none] L vals ∧ Ph 12 13 (fun W => Below w3.heap.size w3 W) (fun _ W => MkPo w gs gm Q s (s.setA (7, ((i : Nat) : Int)) bk (t0, t1)).2 W ∧ W.heap[vb]? = some (.cells #[.int .i64 7, .int .i64 ((i : Nat) : Int)] 35 (0, 0))) (fun _ W => MkPo w gs gm Q s (s.setA (7, ((i : Nat) : Int)) bk (t0, t1)).2 W ∧ W.heap[vb]? = some (.cells #[.int .i64 7, .int .i64 ((i : Nat) : Int)] 35 (0, 0))) L vals W) (by kernel_rfl) ?_ (by kernel_rfl) (by kernel_rfl) ?_ ?_
            · exact ⟨AllV.start _ _, Ph.start (Below.refl _ _).drew⟩
            · refine AllOps.cons ?_ ?_
              · intro L vals aa W hC hB hL hD hdep
                obtain ⟨hV, hP0⟩ := hC
                refine .inl ⟨rfl, ?_⟩
                have b0 : aa.tmps.getD 4 undef = .pointer (some ⟨gs, 0, none⟩) := hB.off 4 (by kernel_rfl)
                refine goesV_value (v := .pointer (some ⟨gs, 0, none⟩)) ?_ ⟨hV.fix rfl, hP0.idle (by decide) (by decide) _⟩
                simp only [execOp, Act.eval, b0]
                go_simp
              refine AllOps.cons ?_ ?_
              · intro L vals aa W hC hB hL hD hdep
                obtain ⟨hV, hP0⟩ := hC
                refine .inl ⟨rfl, ?_⟩
                have b0 : aa.tmps.getD 9 undef = .pointer (some ⟨vb, 0, none⟩) := hB.off 9 (by kernel_rfl)
                have hpre := hP0.pre (hD 12 (by kernel_rfl))
                obtain ⟨k0, k1, k2, k3, k4⟩ := HX.out W (HT3.out.st.bel.trans (hpre.mono HT3.out.st.bel.size)); obtain ⟨x0, x1, _⟩ := (HBX.out.below hpre).facts; simp only at x0 x1
                refine goesV_value (v := .agg #[.int .i64 7, .int .i64 ((i : Nat) : Int)]) ?_ ⟨hV.fix rfl, hP0.idle (by decide) (by decide) _⟩
                simp only [execOp, Act.eval, b0]
                go_simp
              refine AllOps.cons ?_ ?_
              · intro L vals aa W hC hB hL hD hdep
                obtain ⟨hV, hP0⟩ := hC
                refine .inl ⟨rfl, ?_⟩
                have b0 : aa.tmps.getD 0 undef = .slice (some ⟨eb, eo, none⟩) es.length ec := hB.off 0 (by kernel_rfl)
                refine goesV_value (v := .slice (some ⟨eb, eo, none⟩) es.length ec) ?_ ⟨hV.fix rfl, hP0.idle (by decide) (by decide) _⟩
                simp only [execOp, Act.eval, b0]
                go_simp
              refine AllOps.cons ?_ ?_
              · intro L vals aa W hC hB hL hD hdep
                obtain ⟨hV, hP0⟩ := hC
                refine .inl ⟨rfl, ?_⟩
                have b0 : aa.tmps.getD 8 undef = .int .i64 ((i : Nat) : Int) := hB.off 8 (by kernel_rfl)
                refine goesV_value (v := .int .i64 ((i : Nat) : Int)) ?_ ⟨hV.fix rfl, hP0.idle (by decide) (by decide) _⟩
                simp only [execOp, Act.eval, b0]
                go_simp
              refine AllOps.cons ?_ ?_
              · intro L vals aa W hC hB hL hD hdep
                obtain ⟨hV, hP0⟩ := hC
                refine .inl ⟨rfl, ?_⟩
                have e0 : aa.tmps.getD 75 undef = .slice (some ⟨eb, eo, none⟩) es.length ec := hV.at (j := 2) rfl (hdep 2 75 (by kernel_rfl))
                have e1 : aa.tmps.getD 76 undef = .int .i64 ((i : Nat) : Int) := hV.at (j := 3) rfl (hdep 3 76 (by kernel_rfl))
                refine goesV_value (v := .pointer (some ⟨eb, eo + i * 5, none⟩)) ?_ ⟨hV.fix rfl, hP0.idle (by decide) (by decide) _⟩
                simp only [execOp, Act.eval, e0, e1]
                go_simp
              refine AllOps.cons ?_ ?_
              · intro L vals aa W hC hB hL hD hdep
                obtain ⟨hV, hP0⟩ := hC
                refine .inl ⟨rfl, ?_⟩
                have e0 : aa.tmps.getD 77 undef = .pointer (some ⟨eb, eo + i * 5, none⟩) := hV.at (j := 4) rfl (hdep 4 77 (by kernel_rfl))
                refine goesV_value (v := .pointer (some ⟨eb, eo + i * 5 + 2, none⟩)) ?_ ⟨hV.fix rfl, hP0.idle (by decide) (by decide) _⟩
                simp only [execOp, Act.eval, e0]
                go_simp
              refine AllOps.cons ?_ ?_
              · intro L vals aa W hC hB hL hD hdep
                obtain ⟨hV, hP0⟩ := hC
                refine .inl ⟨rfl, ?_⟩
                have e0 : aa.tmps.getD 78 undef = .pointer (some ⟨eb, eo + i * 5 + 2, none⟩) := hV.at (j := 5) rfl (hdep 5 78 (by kernel_rfl))
                have hpre := hP0.pre (hD 12 (by kernel_rfl))
                obtain ⟨k0, k1, k2, k3, k4⟩ := HX.out W (HT3.out.st.bel.trans (hpre.mono HT3.out.st.bel.size)); obtain ⟨x0, x1, _⟩ := (HBX.out.below hpre).facts; simp only at x0 x1
                refine goesV_value (v := .int .i64 bk) ?_ ⟨hV.fix rfl, hP0.idle (by decide) (by decide) _⟩
                simp only [execOp, Act.eval, e0]
                go_simp
              refine AllOps.cons ?_ ?_
              · intro L vals aa W hC hB hL hD hdep
                obtain ⟨hV, hP0⟩ := hC
                refine .inl ⟨rfl, ?_⟩
                have b0 : aa.tmps.getD 0 undef = .slice (some ⟨eb, eo, none⟩) es.length ec := hB.off 0 (by kernel_rfl)
                refine goesV_value (v := .slice (some ⟨eb, eo, none⟩) es.length ec) ?_ ⟨hV.fix rfl, hP0.idle (by decide) (by decide) _⟩
                simp only [execOp, Act.eval, b0]
                go_simp
              refine AllOps.cons ?_ ?_
              · intro L vals aa W hC hB hL hD hdep
                obtain ⟨hV, hP0⟩ := hC
                refine .inl ⟨rfl, ?_⟩
                have b0 : aa.tmps.getD 8 undef = .int .i64 ((i : Nat) : Int) := hB.off 8 (by kernel_rfl)
                refine goesV_value (v := .int .i64 ((i : Nat) : Int)) ?_ ⟨hV.fix rfl, hP0.idle (by decide) (by decide) _⟩
                simp only [execOp, Act.eval, b0]
                go_simp
              refine AllOps.cons ?_ ?_
              · intro L vals aa W hC hB hL hD hdep
                obtain ⟨hV, hP0⟩ := hC
                refine .inl ⟨rfl, ?_⟩
                have e0 : aa.tmps.getD 80 undef = .slice (some ⟨eb, eo, none⟩) es.length ec := hV.at (j := 7) rfl (hdep 7 80 (by kernel_rfl))
                have e1 : aa.tmps.getD 81 undef = .int .i64 ((i : Nat) : Int) := hV.at (j := 8) rfl (hdep 8 81 (by kernel_rfl))
                refine goesV_value (v := .pointer (some ⟨eb, eo + i * 5, none⟩)) ?_ ⟨hV.fix rfl, hP0.idle (by decide) (by decide) _⟩
                simp only [execOp, Act.eval, e0, e1]
                go_simp
              refine AllOps.cons ?_ ?_
              · intro L vals aa W hC hB hL hD hdep
                obtain ⟨hV, hP0⟩ := hC
                refine .inl ⟨rfl, ?_⟩
                have e0 : aa.tmps.getD 82 undef = .pointer (some ⟨eb, eo + i * 5, none⟩) := hV.at (j := 9) rfl (hdep 9 82 (by kernel_rfl))
                refine goesV_value (v := .pointer (some ⟨eb, eo + i * 5 + 3, none⟩)) ?_ ⟨hV.fix rfl, hP0.idle (by decide) (by decide) _⟩
                simp only [execOp, Act.eval, e0]
                go_simp
              refine AllOps.cons ?_ ?_
              · intro L vals aa W hC hB hL hD hdep
                obtain ⟨hV, hP0⟩ := hC
                refine .inl ⟨rfl, ?_⟩
                have e0 : aa.tmps.getD 83 undef = .pointer (some ⟨eb, eo + i * 5 + 3, none⟩) := hV.at (j := 10) rfl (hdep 10 83 (by kernel_rfl))
                have hpre := hP0.pre (hD 12 (by kernel_rfl))
                obtain ⟨k0, k1, k2, k3, k4⟩ := HX.out W (HT3.out.st.bel.trans (hpre.mono HT3.out.st.bel.size)); obtain ⟨x0, x1, _⟩ := (HBX.out.below hpre).facts; simp only at x0 x1
                refine goesV_value (v := .agg #[.int .i64 t0, .int .i64 t1]) ?_ ⟨hV.fix rfl, hP0.idle (by decide) (by decide) _⟩
                simp only [execOp, Act.eval, e0]
                go_simp
              refine AllOps.cons ?_ ?_
              · intro L vals aa W hC hB hL hD hdep
                obtain ⟨hV, hP0⟩ := hC
                refine .inl ⟨rfl, ?_⟩
                have e0 : aa.tmps.getD 73 undef = .pointer (some ⟨gs, 0, none⟩) := hV.at (j := 0) rfl (hdep 0 73 (by kernel_rfl))
                have e1 : aa.tmps.getD 74 undef = .agg #[.int .i64 7, .int .i64 ((i : Nat) : Int)] := hV.at (j := 1) rfl (hdep 1 74 (by kernel_rfl))
                have e2 : aa.tmps.getD 79 undef = .int .i64 bk := hV.at (j := 6) rfl (hdep 6 79 (by kernel_rfl))
                have e3 : aa.tmps.getD 84 undef = .agg #[.int .i64 t0, .int .i64 t1] := hV.at (j := 11) rfl (hdep 11 84 (by kernel_rfl))
                have hpre := hP0.pre hL
                refine goesV_call (f := 19) (args := #[.pointer (some ⟨gs, 0, none⟩), .agg #[.int .i64 7, .int .i64 ((i : Nat) : Int)], .int .i64 bk, .agg #[.int .i64 t0, .int .i64 t1]]) ?_ ?_
                · simp only [execOp]
                  go_simp
                · exact (HST.out W hpre).mono fun e w7 ⟨he, hp⟩ => ⟨_, he, hV.free rfl, hP0.first hL (by decide) hp⟩
              exact trivial
            · intro L vals aa w8 hC hLL hB hall
              obtain ⟨hV, hP0⟩ := hC
              have hv : ∀ p ∈ [((73 : Nat), (.pointer (some ⟨gs, 0, none⟩) : Value)), ((74 : Nat), (.agg #[.int .i64 7, .int .i64 ((i : Nat) : Int)] : Value)), ((75 : Nat), (.slice (some ⟨eb, eo, none⟩) es.length ec : Value)), ((76 : Nat), (.int .i64 ((i : Nat) : Int) : Value)), ((77 : Nat), (.pointer (some ⟨eb, eo + i * 5, none⟩) : Value)), ((78 : Nat), (.pointer (some ⟨eb, eo + i * 5 + 2, none⟩) : Value)), ((79 : Nat), (.int .i64 bk : Value)), ((80 : Nat), (.slice (some ⟨eb, eo, none⟩) es.length ec : Value)), ((81 : Nat), (.int .i64 ((i : Nat) : Int) : Value)), ((82 : Nat), (.pointer (some ⟨eb, eo + i * 5, none⟩) : Value)), ((83 : Nat), (.pointer (some ⟨eb, eo + i * 5 + 3, none⟩) : Value)), ((84 : Nat), (.agg #[.int .i64 t0, .int .i64 t1] : Value)), ((85 : Nat), (vals 12 : Value))], aa.tmps.getD p.1 undef = p.2 := by
                intro p hp
                simp only [List.mem_cons, List.not_mem_nil, or_false] at hp
                rcases hp with rfl | rfl | rfl | rfl | rfl | rfl | rfl | rfl | rfl | rfl | rfl | rfl | rfl
                · exact (hall 0 _ rfl _ rfl).trans (hV 0 _ rfl (hLL 0 (Nat.le_of_ble_eq_true rfl)))
                · exact (hall 1 _ rfl _ rfl).trans (hV 1 _ rfl (hLL 1 (Nat.le_of_ble_eq_true rfl)))
                · exact (hall 2 _ rfl _ rfl).trans (hV 2 _ rfl (hLL 2 (Nat.le_of_ble_eq_true rfl)))
                · exact (hall 3 _ rfl _ rfl).trans (hV 3 _ rfl (hLL 3 (Nat.le_of_ble_eq_true rfl)))
                · exact (hall 4 _ rfl _ rfl).trans (hV 4 _ rfl (hLL 4 (Nat.le_of_ble_eq_true rfl)))
                · exact (hall 5 _ rfl _ rfl).trans (hV 5 _ rfl (hLL 5 (Nat.le_of_ble_eq_true rfl)))
                · exact (hall 6 _ rfl _ rfl).trans (hV 6 _ rfl (hLL 6 (Nat.le_of_ble_eq_true rfl)))
                · exact (hall 7 _ rfl _ rfl).trans (hV 7 _ rfl (hLL 7 (Nat.le_of_ble_eq_true rfl)))
                · exact (hall 8 _ rfl _ rfl).trans (hV 8 _ rfl (hLL 8 (Nat.le_of_ble_eq_true rfl)))
                · exact (hall 9 _ rfl _ rfl).trans (hV 9 _ rfl (hLL 9 (Nat.le_of_ble_eq_true rfl)))
                · exact (hall 10 _ rfl _ rfl).trans (hV 10 _ rfl (hLL 10 (Nat.le_of_ble_eq_true rfl)))
                · exact (hall 11 _ rfl _ rfl).trans (hV 11 _ rfl (hLL 11 (Nat.le_of_ble_eq_true rfl)))
                · exact hall 12 _ rfl _ rfl
              have hact := act_fold _ hB hv (by kernel_rfl)
              subst hact
              have hfin := (show MkPo w gs gm Q s (s.setA (7, ((i : Nat) : Int)) bk (t0, t1)).2 w8 ∧ w8.heap[vb]? = some (.cells #[.int .i64 7, .int .i64 ((i : Nat) : Int)] 35 (0, 0)) from (match h : L 13 with | false => hP0.mid (hLL 12 (Nat.le_of_ble_eq_true rfl)) h | true => hP0.fin h))
              clear hv hall hB hV hLL hP0
              refine (‹∀ (a : Act) (w : World), Code.wp Try.prog _ _ a w → _›) _ w8 ?_
              simp only [List.foldl, List.setIfInBounds_toArray, List.set_cons_succ, List.set_cons_zero]
              obtain ⟨⟨R9, ht4⟩, hbx⟩ := hfin
              have HT4 := Lib.hid ht4
              have HBX4 := Lib.hid (show Bx w8 (fun _ => 0) vb (7, ((i : Nat) : Int)) from ⟨hbx, rfl⟩)
              clear ht4 hbx
              have HRT := Lib.hid (show ∀ (W : World), Below w8.heap.size w8 W → Calls Try.prog 41 #[.pointer (some ⟨gm, 0, none⟩), .agg #[.int .i64 7, .int .i64 ((i : Nat) : Int)], .int .i64 bk, .agg #[.int .i64 t0, .int .i64 t1]] W fun e W' => e = .returned (.int .i64 (s.setA (7, ((i : Nat) : Int)) bk (t0, t1)).1) ∧ RkPo w gs gm R9 (s.setA (7, ((i : Nat) : Int)) bk (t0, t1)).2 (s.setA (7, ((i : Nat) : Int)) bk (t0, t1)).2 W' from
                fun W hb => (rset_any gm Q s (7, ((i : Nat) : Int)) bk (t0, t1) W (HT4.out.below hb).rs HKD.out).mono fun e W' ⟨h1, h2⟩ => ⟨h1, (HT4.out.below hb).rstep h2⟩)
              go_upto_region 16 with fail
              refine wp_region_vals (fun L vals W => AllV [some (.pointer (some ⟨gm, 0, none⟩)), some (.agg #[.int .i64 7, .int .i64 ((i : Nat) : Int)]), some (.slice (some ⟨eb, eo, none⟩) es.length ec), some (.int .i64 ((i : Nat) : Int)), some (.pointer (some ⟨eb, eo + i * 5, none⟩)), some (.pointer (some ⟨eb, eo + i * 5 + 2, none⟩)), some (.int .i64 bk), some (.slice (some ⟨eb, eo, none⟩) es.length ec), some (.int .i64 ((i : Nat) : Int)), some (.pointer (some ⟨eb, eo + i * 5, none⟩)), some (.pointer (some ⟨eb, eo + i * 5 + 3, none⟩)), some (.agg #[.int .i64 t0, .int .i64 t1]), none] L vals ∧ Ph 12 13 (fun W => Below w8.heap.size w8 W) (fun _ W => RkPo w gs gm R9 (s.setA (7, ((i : Nat) : Int)) bk (t0, t1)).2 (s.setA (7, ((i : Nat) : Int)) bk (t0, t1)).2 W) (fun _ W => RkPo w gs gm R9 (s.setA (7, ((i : Nat) : Int)) bk (t0, t1)).2 (s.setA (7, ((i : Nat) : Int)) bk (t0, t1)).2 W) L vals W) (by kernel_rfl) ?_ (by kernel_rfl) (by kernel_rfl) ?_ ?_
              · exact ⟨AllV.start _ _, Ph.start (Below.refl _ _).drew⟩
              · refine AllOps.cons ?_ ?_
                · intro L vals aa W hC hB hL hD hdep
                  obtain ⟨hV, hP0⟩ := hC
                  refine .inl ⟨rfl, ?_⟩
                  have b0 : aa.tmps.getD 6 undef = .pointer (some ⟨gm, 0, none⟩) := hB.off 6 (by kernel_rfl)
                  refine goesV_value (v := .pointer (some ⟨gm, 0, none⟩)) ?_ ⟨hV.fix rfl, hP0.idle (by decide) (by decide) _⟩
                  simp only [execOp, Act.eval, b0]
                  go_simp
                refine AllOps.cons ?_ ?_
                · intro L vals aa W hC hB hL hD hdep
                  obtain ⟨hV, hP0⟩ := hC
                  refine .inl ⟨rfl, ?_⟩
                  have b0 : aa.tmps.getD 9 undef = .pointer (some ⟨vb, 0, none⟩) := hB.off 9 (by kernel_rfl)
                  have hpre := hP0.pre (hD 12 (by kernel_rfl))
                  obtain ⟨k0, k1, k2, k3, k4⟩ := HX.out W (HT4.out.st.bel.trans (hpre.mono HT4.out.st.bel.size)); obtain ⟨x0, x1, _⟩ := (HBX4.out.below hpre).facts; simp only at x0 x1
                  refine goesV_value (v := .agg #[.int .i64 7, .int .i64 ((i : Nat) : Int)]) ?_ ⟨hV.fix rfl, hP0.idle (by decide) (by decide) _⟩
                  simp only [execOp, Act.eval, b0]
                  go_simp
                refine AllOps.cons ?_ ?_
                · intro L vals aa W hC hB hL hD hdep
                  obtain ⟨hV, hP0⟩ := hC
                  refine .inl ⟨rfl, ?_⟩
                  have b0 : aa.tmps.getD 0 undef = .slice (some ⟨eb, eo, none⟩) es.length ec := hB.off 0 (by kernel_rfl)
                  refine goesV_value (v := .slice (some ⟨eb, eo, none⟩) es.length ec) ?_ ⟨hV.fix rfl, hP0.idle (by decide) (by decide) _⟩
                  simp only [execOp, Act.eval, b0]
                  go_simp
                refine AllOps.cons ?_ ?_
                · intro L vals aa W hC hB hL hD hdep
                  obtain ⟨hV, hP0⟩ := hC
                  refine .inl ⟨rfl, ?_⟩
                  have b0 : aa.tmps.getD 8 undef = .int .i64 ((i : Nat) : Int) := hB.off 8 (by kernel_rfl)
                  refine goesV_value (v := .int .i64 ((i : Nat) : Int)) ?_ ⟨hV.fix rfl, hP0.idle (by decide) (by decide) _⟩
                  simp only [execOp, Act.eval, b0]
                  go_simp
                refine AllOps.cons ?_ ?_
                · intro L vals aa W hC hB hL hD hdep
                  obtain ⟨hV, hP0⟩ := hC
                  refine .inl ⟨rfl, ?_⟩
                  have e0 : aa.tmps.getD 88 undef = .slice (some ⟨eb, eo, none⟩) es.length ec := hV.at (j := 2) rfl (hdep 2 88 (by kernel_rfl))
                  have e1 : aa.tmps.getD 89 undef = .int .i64 ((i : Nat) : Int) := hV.at (j := 3) rfl (hdep 3 89 (by kernel_rfl))
                  refine goesV_value (v := .pointer (some ⟨eb, eo + i * 5, none⟩)) ?_ ⟨hV.fix rfl, hP0.idle (by decide) (by decide) _⟩
                  simp only [execOp, Act.eval, e0, e1]
                  go_simp
                refine AllOps.cons ?_ ?_
                · intro L vals aa W hC hB hL hD hdep
                  obtain ⟨hV, hP0⟩ := hC
                  refine .inl ⟨rfl, ?_⟩
                  have e0 : aa.tmps.getD 90 undef = .pointer (some ⟨eb, eo + i * 5, none⟩) := hV.at (j := 4) rfl (hdep 4 90 (by kernel_rfl))
                  refine goesV_value (v := .pointer (some ⟨eb, eo + i * 5 + 2, none⟩)) ?_ ⟨hV.fix rfl, hP0.idle (by decide) (by decide) _⟩
                  simp only [execOp, Act.eval, e0]
                  go_simp
                refine AllOps.cons ?_ ?_
                · intro L vals aa W hC hB hL hD hdep
                  obtain ⟨hV, hP0⟩ := hC
                  refine .inl ⟨rfl, ?_⟩
                  have e0 : aa.tmps.getD 91 undef = .pointer (some ⟨eb, eo + i * 5 + 2, none⟩) := hV.at (j := 5) rfl (hdep 5 91 (by kernel_rfl))
                  have hpre := hP0.pre (hD 12 (by kernel_rfl))
                  obtain ⟨k0, k1, k2, k3, k4⟩ := HX.out W (HT4.out.st.bel.trans (hpre.mono HT4.out.st.bel.size)); obtain ⟨x0, x1, _⟩ := (HBX4.out.below hpre).facts; simp only at x0 x1
                  refine goesV_value (v := .int .i64 bk) ?_ ⟨hV.fix rfl, hP0.idle (by decide) (by decide) _⟩
                  simp only [execOp, Act.eval, e0]
                  go_simp
                refine AllOps.cons ?_ ?_
                · intro L vals aa W hC hB hL hD hdep
                  obtain ⟨hV, hP0⟩ := hC
                  refine .inl ⟨rfl, ?_⟩
                  have b0 : aa.tmps.getD 0 undef = .slice (some ⟨eb, eo, none⟩) es.length ec := hB.off 0 (by kernel_rfl)
                  refine goesV_value (v := .slice (some ⟨eb, eo, none⟩) es.length ec) ?_ ⟨hV.fix rfl, hP0.idle (by decide) (by decide) _⟩
                  simp only [execOp, Act.eval, b0]
                  go_simp
                refine AllOps.cons ?_ ?_
                · intro L vals aa W hC hB hL hD hdep
                  obtain ⟨hV, hP0⟩ := hC
                  refine .inl ⟨rfl, ?_⟩
                  have b0 : aa.tmps.getD 8 undef = .int .i64 ((i : Nat) : Int) := hB.off 8 (by kernel_rfl)
                  refine goesV_value (v := .int .i64 ((i : Nat) : Int)) ?_ ⟨hV.fix rfl, hP0.idle (by decide) (by decide) _⟩
                  simp only [execOp, Act.eval, b0]
                  go_simp
                refine AllOps.cons ?_ ?_
                · intro L vals aa W hC hB hL hD hdep
                  obtain ⟨hV, hP0⟩ := hC
                  refine .inl ⟨rfl, ?_⟩
                  have e0 : aa.tmps.getD 93 undef = .slice (some ⟨eb, eo, none⟩) es.length ec := hV.at (j := 7) rfl (hdep 7 93 (by kernel_rfl))
                  have e1 : aa.tmps.getD 94 undef = .int .i64 ((i : Nat) : Int) := hV.at (j := 8) rfl (hdep 8 94 (by kernel_rfl))
                  refine goesV_value (v := .pointer (some ⟨eb, eo + i * 5, none⟩)) ?_ ⟨hV.fix rfl, hP0.idle (by decide) (by decide) _⟩
                  simp only [execOp, Act.eval, e0, e1]
                  go_simp
                refine AllOps.cons ?_ ?_
                · intro L vals aa W hC hB hL hD hdep
                  obtain ⟨hV, hP0⟩ := hC
                  refine .inl ⟨rfl, ?_⟩
                  have e0 : aa.tmps.getD 95 undef = .pointer (some ⟨eb, eo + i * 5, none⟩) := hV.at (j := 9) rfl (hdep 9 95 (by kernel_rfl))
                  refine goesV_value (v := .pointer (some ⟨eb, eo + i * 5 + 3, none⟩)) ?_ ⟨hV.fix rfl, hP0.idle (by decide) (by decide) _⟩
                  simp only [execOp, Act.eval, e0]
                  go_simp
                refine AllOps.cons ?_ ?_
                · intro L vals aa W hC hB hL hD hdep
                  obtain ⟨hV, hP0⟩ := hC
                  refine .inl ⟨rfl, ?_⟩
                  have e0 : aa.tmps.getD 96 undef = .pointer (some ⟨eb, eo + i * 5 + 3, none⟩) := hV.at (j := 10) rfl (hdep 10 96 (by kernel_rfl))
                  have hpre := hP0.pre (hD 12 (by kernel_rfl))
                  obtain ⟨k0, k1, k2, k3, k4⟩ := HX.out W (HT4.out.st.bel.trans (hpre.mono HT4.out.st.bel.size)); obtain ⟨x0, x1, _⟩ := (HBX4.out.below hpre).facts; simp only at x0 x1
                  refine goesV_value (v := .agg #[.int .i64 t0, .int .i64 t1]) ?_ ⟨hV.fix rfl, hP0.idle (by decide) (by decide) _⟩
                  simp only [execOp, Act.eval, e0]
                  go_simp
                refine AllOps.cons ?_ ?_
                · intro L vals aa W hC hB hL hD hdep
                  obtain ⟨hV, hP0⟩ := hC
                  refine .inl ⟨rfl, ?_⟩
                  have e0 : aa.tmps.getD 86 undef = .pointer (some ⟨gm, 0, none⟩) := hV.at (j := 0) rfl (hdep 0 86 (by kernel_rfl))
                  have e1 : aa.tmps.getD 87 undef = .agg #[.int .i64 7, .int .i64 ((i : Nat) : Int)] := hV.at (j := 1) rfl (hdep 1 87 (by kernel_rfl))
                  have e2 : aa.tmps.getD 92 undef = .int .i64 bk := hV.at (j := 6) rfl (hdep 6 92 (by kernel_rfl))
                  have e3 : aa.tmps.getD 97 undef = .agg #[.int .i64 t0, .int .i64 t1] := hV.at (j := 11) rfl (hdep 11 97 (by kernel_rfl))
                  have hpre := hP0.pre hL
                  refine goesV_call (f := 41) (args := #[.pointer (some ⟨gm, 0, none⟩), .agg #[.int .i64 7, .int .i64 ((i : Nat) : Int)], .int .i64 bk, .agg #[.int .i64 t0, .int .i64 t1]]) ?_ ?_
                  · simp only [execOp]
                    go_simp
                  · exact (HRT.out W hpre).mono fun e w7 ⟨he, hp⟩ => ⟨_, he, hV.free rfl, hP0.first hL (by decide) hp⟩
                exact trivial
              · intro L vals aa w9 hC hLL hB hall
                obtain ⟨hV, hP0⟩ := hC
                have hv : ∀ p ∈ [((86 : Nat), (.pointer (some ⟨gm, 0, none⟩) : Value)), ((87 : Nat), (.agg #[.int .i64 7, .int .i64 ((i : Nat) : Int)] : Value)), ((88 : Nat), (.slice (some ⟨eb, eo, none⟩) es.length ec : Value)), ((89 : Nat), (.int .i64 ((i : Nat) : Int) : Value)), ((90 : Nat), (.pointer (some ⟨eb, eo + i * 5, none⟩) : Value)), ((91 : Nat), (.pointer (some ⟨eb, eo + i * 5 + 2, none⟩) : Value)), ((92 : Nat), (.int .i64 bk : Value)), ((93 : Nat), (.slice (some ⟨eb, eo, none⟩) es.length ec : Value)), ((94 : Nat), (.int .i64 ((i : Nat) : Int) : Value)), ((95 : Nat), (.pointer (some ⟨eb, eo + i * 5, none⟩) : Value)), ((96 : Nat), (.pointer (some ⟨eb, eo + i * 5 + 3, none⟩) : Value)), ((97 : Nat), (.agg #[.int .i64 t0, .int .i64 t1] : Value)), ((98 : Nat), (vals 12 : Value))], aa.tmps.getD p.1 undef = p.2 := by
                  intro p hp
                  simp only [List.mem_cons, List.not_mem_nil, or_false] at hp
                  rcases hp with rfl | rfl | rfl | rfl | rfl | rfl | rfl | rfl | rfl | rfl | rfl | rfl | rfl
                  · exact (hall 0 _ rfl _ rfl).trans (hV 0 _ rfl (hLL 0 (Nat.le_of_ble_eq_true rfl)))
                  · exact (hall 1 _ rfl _ rfl).trans (hV 1 _ rfl (hLL 1 (Nat.le_of_ble_eq_true rfl)))
                  · exact (hall 2 _ rfl _ rfl).trans (hV 2 _ rfl (hLL 2 (Nat.le_of_ble_eq_true rfl)))
                  · exact (hall 3 _ rfl _ rfl).trans (hV 3 _ rfl (hLL 3 (Nat.le_of_ble_eq_true rfl)))
                  · exact (hall 4 _ rfl _ rfl).trans (hV 4 _ rfl (hLL 4 (Nat.le_of_ble_eq_true rfl)))
                  · exact (hall 5 _ rfl _ rfl).trans (hV 5 _ rfl (hLL 5 (Nat.le_of_ble_eq_true rfl)))
                  · exact (hall 6 _ rfl _ rfl).trans (hV 6 _ rfl (hLL 6 (Nat.le_of_ble_eq_true rfl)))
                  · exact (hall 7 _ rfl _ rfl).trans (hV 7 _ rfl (hLL 7 (Nat.le_of_ble_eq_true rfl)))
                  · exact (hall 8 _ rfl _ rfl).trans (hV 8 _ rfl (hLL 8 (Nat.le_of_ble_eq_true rfl)))
                  · exact (hall 9 _ rfl _ rfl).trans (hV 9 _ rfl (hLL 9 (Nat.le_of_ble_eq_true rfl)))
                  · exact (hall 10 _ rfl _ rfl).trans (hV 10 _ rfl (hLL 10 (Nat.le_of_ble_eq_true rfl)))
                  · exact (hall 11 _ rfl _ rfl).trans (hV 11 _ rfl (hLL 11 (Nat.le_of_ble_eq_true rfl)))
                  · exact hall 12 _ rfl _ rfl
                have hact := act_fold _ hB hv (by kernel_rfl)
                subst hact
                have hfin := (show RkPo w gs gm R9 (s.setA (7, ((i : Nat) : Int)) bk (t0, t1)).2 (s.setA (7, ((i : Nat) : Int)) bk (t0, t1)).2 w9 from (match h : L 13 with | false => hP0.mid (hLL 12 (Nat.le_of_ble_eq_true rfl)) h | true => hP0.fin h))
                clear hv hall hB hV hLL hP0
                refine (‹∀ (a : Act) (w : World), Code.wp Try.prog _ _ a w → _›) _ w9 ?_
                simp only [List.foldl, List.setIfInBounds_toArray, List.set_cons_succ, List.set_cons_zero]
                obtain ⟨Q9, ht5⟩ := hfin
                have HT5 := Lib.hid ht5
                clear ht5
                go_wp2_with fail
                go_roundw
                case measure => simp only [intOf]; omega
                case rel => exact ⟨i + 1, R9, Q9, _, by omega, by go_num, HT5.out, Kd_set HKD.out⟩
          · have hexit : (¬ ((i : Nat) : Int) < ((es.length : Nat) : Int)) ∨ (((i : Nat) : Int) < ((es.length : Nat) : Int) ∧ ¬ ((i : Nat) : Int) < 60) := by omega
            clear hlt hi
            rcases hexit with hx | ⟨hx, hy⟩
            all_goals
              go_wp2_with fail
              refine bodyPost_ret (v := .tuple #[.pointer (some ⟨gs, 0, none⟩), .pointer (some ⟨gm, 0, none⟩)]) (by simp [results, Try.results28, go_sem]) rfl ⟨gs, gm, rfl, R, Q, s, HT0.out, HKD.out⟩
end Go.Proofs.Ytimnhbndokfgnaa
