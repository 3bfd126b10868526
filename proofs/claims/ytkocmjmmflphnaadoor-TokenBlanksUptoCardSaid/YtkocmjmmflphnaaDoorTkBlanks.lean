/- The law TokenBlanks. -/
import Derived.Test.YtkocmjmmflphnaaDoorTkBMath
import Derived.Test.YtkocmjmmflphnaaDoorTkStrings
import Derived.Deep.RegionHeldLaw
import Derived.Deep.AppendLies
namespace Go.Proofs.YtkocmjmmflphnaaDoor
open Go.RowKit

theorem chA_len (bs : List Nat) (hby : By bs) : (chA bs).1.length ≤ bs.length := by
  cases hc : (chars bs 0).2 with
  | none =>
    have e : chars bs 0 = ((chars bs 0).1, none) := by rw [← hc]
    rw [chA_ok e]
    have h := (enc_chars hby _ 0 _ (Nat.le_refl _) (Nat.zero_le _) e).1
    rw [List.drop_zero] at h
    have key : ∀ l : List Nat, l.length ≤ (encL l).length := by
      intro l
      induction l with
      | nil => simp
      | cons c l ih =>
        have e : encL (c :: l) = encN c ++ encL l := by simp [encL]
        have := (blen_le c).1
        rw [e, List.length_append, encN_len, List.length_cons]
        omega
    have := key (chars bs 0).1
    rw [h] at this
    exact this
  | some k => rw [chA_bad hc]; simp
theorem chA_sc (bs : List Nat) (hby : By bs) : ∀ c ∈ (chA bs).1, scN c := by
  cases hc : (chars bs 0).2 with
  | none =>
    have e : chars bs 0 = ((chars bs 0).1, none) := by rw [← hc]
    rw [chA_ok e]
    exact (enc_chars hby _ 0 _ (Nat.le_refl _) (Nat.zero_le _) e).2
  | some k => rw [chA_bad hc]; intro c h; cases h
theorem chA_low (bs : List Nat) (hby : By bs) {a : Nat} (ha : a < 128) (h : a ∈ (chA bs).1) : a ∈ bs := by
  cases hc : (chars bs 0).2 with
  | none =>
    have e : chars bs 0 = ((chars bs 0).1, none) := by rw [← hc]
    rw [chA_ok e] at h
    have h1 := (enc_chars hby _ 0 _ (Nat.le_refl _) (Nat.zero_le _) e).1
    rw [List.drop_zero] at h1
    rw [← h1]
    unfold encL
    rw [List.mem_flatMap]
    exact ⟨a, h, by unfold encN; rw [if_pos ha]; simp⟩
  | some k => rw [chA_bad hc] at h; cases h
/-- What Scan answers of characters. -/
theorem scan_nat {cs : List Nat} (hsc : ∀ c ∈ cs, scN c) : scanA (cs.map fun (c : Nat) => (c : Int)) = ((scanW cs).1, ((scanW cs).2.1 : Int), (scanW cs).2.2) := by
  have hz : idxZ (fun c => !scB c) (cs.map fun (c : Nat) => (c : Int)) < 0 := by
    rw [idxZ_none]
    · omega
    · intro j hj
      rw [List.length_map] at hj
      have e : (cs.map fun (c : Nat) => (c : Int)).getD j 0 = (cs[j] : Nat) := by
        rw [List.getD_eq_getElem?_getD, List.getElem?_map, List.getElem?_eq_getElem hj]; rfl
      rw [e]
      have hs : scB ((cs[j] : Nat) : Int) = true := by rw [scB_nat]; exact decide_eq_true (hsc _ (List.getElem_mem hj))
      simp [hs]
  have hm : (cs.map fun (c : Nat) => (c : Int)).map Int.toNat = cs := by
    rw [List.map_map]
    have : (Int.toNat ∘ fun (c : Nat) => (c : Int)) = id := by funext c; simp
    rw [this, List.map_id]
  unfold scanA
  rw [if_pos hz, hm]
theorem scanW_zero {cs : List Nat} (h : (scanW cs).2.2 = 0) : scanW cs = ((scanW cs).1, 0, 0) := by
  unfold scanW at h ⊢
  generalize wdsA cs 0 [] = p at *
  obtain ⟨a, b⟩ := p
  cases b with
  | none => rfl
  | some q => simp at h
theorem scan_nil : scanW [] = ([], 0, 0) := by
  unfold scanW
  rw [wdsA_end (Nat.zero_le _)]
theorem int_cells (cs : List Nat) : intCells (cs.map fun (c : Nat) => (c : Int)) = cs.map fun (c : Nat) => Value.int .i64 (c : Int) := by unfold intCells; rw [List.map_map]; rfl

theorem scan_pl {cs : List Nat} {ws : List Wd} {k : Nat} {x : Wd} (hw : scanW cs = (ws, 0, 0)) (hk : ws[k]? = some x) : x.pl < cs.length := by
  obtain ⟨_, _, _, h⟩ := scan_blanks (cm := []) (fun a ha => by cases ha) hw hk
  exact h
theorem mored_sc {cm : List Nat} (h : ∀ c ∈ cm, scN c) : ∀ c ∈ mored cm, scN c := by
  intro c hc
  unfold mored at hc
  rcases List.mem_cons.1 hc with rfl | hc
  · unfold scN; omega
  rcases List.mem_cons.1 hc with rfl | hc
  · unfold scN; omega
  rcases List.mem_append.1 hc with hc | hc
  · exact h c hc
  · simp at hc; unfold scN; omega
/-- Characters as cells. -/
def nc (cs : List Nat) : List Value := intCells (cs.map fun (c : Nat) => (c : Int))
theorem nc_len (cs : List Nat) : (nc cs).length = cs.length := by simp [nc, intCells]
theorem nc_app (a b : List Nat) : nc (a ++ b) = nc a ++ nc b := by simp [nc, intCells]
theorem nc_one (cs : List Nat) : ∀ u ∈ nc cs, u.oneCell' = true := intCells_one _
theorem nc_at {cs : List Nat} {j : Nat} {u : Value} (h : (nc cs)[j]? = some u) : j < cs.length ∧ u = .int .i64 ((limb cs j : Nat) : Int) := by
  have hj : j < cs.length := by rw [← nc_len cs]; exact (List.getElem?_eq_some_iff.1 h).1
  refine ⟨hj, ?_⟩
  rw [limb_lt hj]
  simp [nc, intCells, hj] at h
  exact h.symm
theorem run_append_nc {P : Program} (w : World) (base : Nat) (t ty e : TypeId) (i : TypeInfo) (z : Value) (ht : P.underlying t = some (.slice e)) (hi : P.info? e = some i) (hz : i.zero = some z) (hsize : i.size = 1) (hby : i.bytes = 8) (hzs : z.cells.size = 1)
    (v : Value) (a : List Nat) (hown : w.ownsRow base e 1 v a.length (nc a)) (ad : Addr) (c : Nat) (b : List Nat) (hnews : ∀ j u, (nc b)[j]? = some u → w.cell? (ad.add j) = some u) (hle : a.length + b.length ≤ 10000000) (hbase : base ≤ w.heap.size) :
    ∃ v' w', (Builtin.append_ #[t, t] ty #[v, .slice (some ad) b.length c]).run P w = .ok v' w' ∧ w'.ownsRow base e 1 v' (a ++ b).length (nc (a ++ b)) ∧ w.grownBy w' v.ownBlock := by
  obtain ⟨v', w', hr, h2, h3, _, _⟩ := run_append_own_at (P := P) w base t ty e i z 1 8 ht hi hz hsize hby hzs (by decide) v a.length (nc a) hown ad b.length c (nc b) (by rw [nc_len]; omega) hnews (nc_one b) (by unfold maxLen; omega) (by omega) hbase
  exact ⟨v', w', hr, by rw [nc_app, List.length_append]; exact h2, h3⟩
theorem wp_append_nc {P : Program} (w : World) {o : Oper} {act : Act} {K : Act → World → Prop} {Q : Exit → Act → World → Prop} (s x : Operand) (t : TypeId)
    (ho : o.op = .call { callee := .builtin .append, args := #[s, x], argTypes := #[t, t] })
    (base : Nat) (e : TypeId) (i : TypeInfo) (z : Value) (ht : P.underlying t = some (.slice e)) (hi : P.info? e = some i) (hz : i.zero = some z) (hsize : i.size = 1) (hby : i.bytes = 8) (hzs : z.cells.size = 1)
    (v : Value) (a : List Nat) (hs : act.eval s = v) (hown : w.ownsRow base e 1 v a.length (nc a)) (ad : Addr) (c : Nat) (b : List Nat) (hx : act.eval x = .slice (some ad) b.length c) (hnews : ∀ j u, (nc b)[j]? = some u → w.cell? (ad.add j) = some u) (hle : a.length + b.length ≤ 10000000) (hbase : base ≤ w.heap.size)
    (h : ∀ v' w', w'.ownsRow base e 1 v' (a ++ b).length (nc (a ++ b)) → w.grownBy w' v.ownBlock → K (act.put o.dst v') w') : o.wp P act w K Q := by
  obtain ⟨v', w', hr, h2, h3⟩ := run_append_nc (P := P) w base t o.type e i z ht hi hz hsize hby hzs v a hown ad c b hnews hle hbase
  unfold Oper.wp execOp
  simp only [ho, resolve, invoke, builtin, Sem.run_bind, Sem.run_pure, Result.andThen_ok, List.map_toArray, List.map_cons, List.map_nil, hs, hx, hr]
  exact h v' w' h2 h3
theorem wpList_append_nc {P : Program} {w : World} {ops : Array Oper} {rest : List Oper} {o : Oper} {act : Act} {Q : Exit → Act → World → Prop} (hgd : o.guard = none) (s x : Operand) (t : TypeId)
    (ho : o.op = .call { callee := .builtin .append, args := #[s, x], argTypes := #[t, t] })
    (base : Nat) (e : TypeId) (i : TypeInfo) (z : Value) (ht : P.underlying t = some (.slice e)) (hi : P.info? e = some i) (hz : i.zero = some z) (hsize : i.size = 1) (hby : i.bytes = 8) (hzs : z.cells.size = 1)
    (v : Value) (a : List Nat) (hs : act.eval s = v) (hown : w.ownsRow base e 1 v a.length (nc a)) (sv : Value) (b : List Nat) (hx : act.eval x = sv) (hsl : SlV w sv (nc b)) (hle : a.length + b.length ≤ 10000000) (hbase : base ≤ w.heap.size)
    (h : ∀ v' w', w'.ownsRow base e 1 v' (a ++ b).length (nc (a ++ b)) → w.grownBy w' v.ownBlock → wpList P ops Q rest (act.put o.dst v') w') : wpList P ops Q (o :: rest) act w :=
  wpList_append_slv hgd s x t ho base e i z 8 ht hi hz hsize hby hzs v a.length (nc a) hs hown sv (nc b) (nc_one b) hx hsl (by rw [nc_len]; unfold maxLen; omega) (by rw [nc_len]; omega) hbase fun v' w' h1 h2 => h v' w' (by rw [nc_app, List.length_append]; rw [nc_len] at h1; exact h1) h2
theorem step_append_nc {P : Program} {w : World} {ops : Array Oper} {o : Oper} {act : Act} {K : Act → World → Prop} {Q : Exit → Act → World → Prop} {E : Prop} (hgd : o.guard = none) (s x : Operand) (t : TypeId)
    (ho : o.op = .call { callee := .builtin .append, args := #[s, x], argTypes := #[t, t] })
    (base : Nat) (e : TypeId) (i : TypeInfo) (z : Value) (ht : P.underlying t = some (.slice e)) (hi : P.info? e = some i) (hz : i.zero = some z) (hsize : i.size = 1) (hby : i.bytes = 8) (hzs : z.cells.size = 1)
    (v : Value) (a : List Nat) (hs : act.eval s = v) (hown : w.ownsRow base e 1 v a.length (nc a)) (ad : Addr) (c : Nat) (b : List Nat) (hx : act.eval x = .slice (some ad) b.length c) (hnews : ∀ j u, (nc b)[j]? = some u → w.cell? (ad.add j) = some u) (hle : a.length + b.length ≤ 10000000) (hbase : base ≤ w.heap.size)
    (h : ∀ v' w', w'.ownsRow base e 1 v' (a ++ b).length (nc (a ++ b)) → w.grownBy w' v.ownBlock → K (act.put o.dst v') w') : if Region.wanted o (yielded ops act.tmps) = true then Oper.wp P o act w K Q else E := by
  have hw : Region.wanted o (yielded ops act.tmps) = true := by simp [Region.wanted, hgd]
  rw [if_pos hw]
  exact wp_append_nc w s x t ho base e i z ht hi hz hsize hby hzs v a hs hown ad c b hx hnews hle hbase h
theorem own_slice' {w : World} {base : Nat} {e : TypeId} {v : Value} {n size : Nat} {xs : List Value} (h : OwnQ w base e size v n xs) : ∃ ao cap, v = .slice ao n cap := by
  rcases h.2 with ⟨rfl, rfl⟩ | ⟨g, cap, cur, rfl, _⟩
  · exact ⟨_, _, rfl⟩
  · exact ⟨_, _, rfl⟩
theorem own_slice {w : World} {base : Nat} {e : TypeId} {v : Value} {n : Nat} {xs : List Value} (h : w.ownsRow base e 1 v n xs) : ∃ ao cap, v = .slice ao n cap := by
  rcases h.2 with ⟨rfl, rfl⟩ | ⟨g, cap, cur, rfl, _⟩
  · exact ⟨_, _, rfl⟩
  · exact ⟨_, _, rfl⟩

set_option maxRecDepth 100000 in
set_option maxHeartbeats 4000000 in
theorem blanks_any (s cm : ByteArray) (a : Nat) (ha : a < 256) (w : World) (hs : s.size ≤ 1048576) (hs2 : cm.size ≤ 1048576) (ht : Tabs2 w) (hwd : Words w) (hmk : Marks w) :
    Calls Tryd.prog 3 #[.string s, .int .u8 (a : Nat), .string cm] w (TruePost w) := by
  obtain ⟨i0, hi, hz0, hz1, hz2⟩ := info_parts infoInt
  have HT := Lib.hid ht; clear ht
  have HW := Lib.hid hwd; clear hwd
  have HM := Lib.hid hmk; clear hmk
  go_enter Tryd.func3, Tryd.ntmps3
  go_wp2_with fail
  refine (lchars_any s w (by omega)).mono ?_
  rintro e w1 ⟨v1, rfl, hv1, hb⟩
  have HB1 := Lib.hid hb
  have HLEN : Hid ((chA (byt s)).1.length ≤ 1048576) := Lib.hid (by have := chA_len (byt s) (byt_by s); rw [byt_len] at this; omega)
  have HSC := Lib.hid (chA_sc (byt s) (byt_by s))
  generalize (chA (byt s)).1 = cs at *
  have HV1 : Hid (SlV w1 v1 (nc cs)) := Lib.hid (slv_nat hv1)
  have HS1 := Lib.hid hv1
  obtain ⟨av, cv, rfl⟩ : ∃ av cv, v1 = .slice av cs.length cv := by obtain ⟨_, av, cv, h, _⟩ := hv1; exact ⟨av, cv, h⟩
  have hbs := hb.size
  clear hb hv1
  have hown0 : (w1.alloc (.cells #[] 3)).ownsRow w.heap.size 3 1 (.slice (some ⟨w1.heap.size, 0, none⟩) 0 0) ([] : List Nat).length (nc []) := World.ownsRow_lit w1 #[] 0 hbs (by decide) rfl
  have HO0 := Lib.hid hown0; clear hown0
  have HVA := Lib.hid (HV1.out.below (below1 w1 (.cells #[] 3)))
  have HBA := Lib.hid (HB1.out.trans ((below1 w1 (.cells #[] 3)).mono hbs))
  go_wp2_with (at_builtin; go_loud (refine wpList_append_nc rfl _ _ 22 rfl w.heap.size 3 i0 (.int .i64 0) Tryd.underlying22 hi hz0 hz1 hz2 rfl _ [] rfl HO0.out _ cs rfl HVA.out (by have := HLEN.out; simp only [List.length_nil]; omega) (by simp; omega) ?_); intro v' w2 hown1 hgrow)
  rw [List.nil_append] at hown1
  have hlo := HO0.out.lt
  have HB2 := Lib.hid (HBA.out.grown hgrow (by simp; omega) (fun k hk => (hlo k hk).1))
  have hown9 : (w1.alloc (.cells #[] 3)).ownsRow w1.heap.size 3 1 (.slice (some ⟨w1.heap.size, 0, none⟩) 0 0) ([] : List Nat).length (nc []) := World.ownsRow_lit w1 #[] 0 (Nat.le_refl _) (by decide) rfl
  have hlo9 := hown9.lt
  have HS2 := Lib.hid (HS1.out.below ((below1 w1 (.cells #[] 3)).grown hgrow (by simp) (fun k hk => (hlo9 k hk).1)))
  clear hown9 hlo9
  have hsv := owns_slv hown1
  clear hown1 hlo hgrow HBA HVA HO0 HV1 HB1 HS1 hbs
  have hscn := scan_nat HSC.out
  have hcall := scan_any v' (cs.map fun (c : Nat) => (c : Int)) w2 hsv (by rw [List.length_map]; have := HLEN.out; omega) (HT.out.below HB2.out) (HW.out.below HB2.out) (HM.out.below HB2.out)
  unfold ScanPost at hcall
  rw [hscn] at hcall
  have HZERO : Hid ((scanW cs).2.2 = 0 → scanW cs = ((scanW cs).1, 0, 0)) := Lib.hid scanW_zero
  obtain ⟨ws, hws⟩ : ∃ ws, ws = (scanW cs).1 := ⟨_, rfl⟩
  obtain ⟨E, hE⟩ : ∃ E, E = (scanW cs).2.2 := ⟨_, rfl⟩
  obtain ⟨q, hq⟩ : ∃ q, q = (scanW cs).2.1 := ⟨_, rfl⟩
  rw [← hws, ← hE, ← hq] at hcall
  have HWS := Lib.hid hws
  have HE := Lib.hid hE
  clear hscn hsv hws hE hq
  simp only at hcall
  go_wp2_with fail
  refine hcall.mono ?_
  rintro e w3 ⟨v3, ps, rfl, hps, htk, hpl, hb⟩
  have HB3 := Lib.hid (HB2.out.trans (hb.mono HB2.out.size))
  have HS3 := Lib.hid (HS2.out.below hb)
  have HPS := Lib.hid hps
  have HTK := Lib.hid htk
  obtain ⟨a3, c3, hv3⟩ := own_slice' htk.own
  subst hv3
  clear hcall hb hps htk
  go_wp2_with fail
  refine (tanswers_any _ (HT.out.below HB3.out) (HW.out.below HB3.out) (HM.out.below HB3.out)).mono ?_
  rintro e w4 ⟨rfl, hb⟩
  have HB4 := Lib.hid (HB3.out.trans (hb.mono HB3.out.size))
  have HS4 := Lib.hid (HS3.out.below hb)
  have HTK4 := Lib.hid (HTK.out.below hb)
  clear hb HTK HS3
  have hcase : ((((E : Nat) : Int) != 0) = true ∨ ((((E : Nat) : Int) != 0) = false ∧ (((ps.length : Nat) : Int) == 0) = true) ∨ ((((E : Nat) : Int) != 0) = false ∧ (((ps.length : Nat) : Int) == 0) = false ∧ (5000 : Int) < (cs.length : Int))) ∨ (E = 0 ∧ ps.length ≠ 0 ∧ ¬ (5000 : Int) < (cs.length : Int)) := by
    by_cases h1 : E = 0
    · by_cases h2 : ps.length = 0
      · exact .inl (.inr (.inl ⟨by rw [h1]; rfl, by rw [h2]; rfl⟩))
      · by_cases h3 : (5000 : Int) < (cs.length : Int)
        · exact .inl (.inr (.inr ⟨by rw [h1]; rfl, by rw [beq_eq_false_iff_ne]; omega, h3⟩))
        · exact .inr ⟨h1, h2, h3⟩
    · exact .inl (.inl (by rw [bne_iff_ne]; omega))
  rcases hcase with hcase | ⟨hE0, hp0, hc5⟩
  · rcases hcase with q1 | ⟨q1, q2⟩ | ⟨q1, q2, q3⟩
    all_goals
      go_wp2_with fail
      refine (tanswers_any _ (HT.out.below HB4.out) (HW.out.below HB4.out) (HM.out.below HB4.out)).mono ?_
      rintro e w5 ⟨rfl, hb⟩
      have HB5 := Lib.hid (HB4.out.trans (hb.mono HB4.out.size))
      clear hb
      go_wp2_with fail
      go_ret
      exact ⟨rfl, HB5.out⟩
  subst hE0
  have HCS := Lib.hid (HZERO.out HE.out.symm)
  have hp0' : (((ps.length : Nat) : Int) == 0) = false := by rw [beq_eq_false_iff_ne]; omega
  clear HZERO HE
  go_wp2_with fail
  go_loop [11] (fun v => ∃ k : Nat, k ≤ cm.size ∧ v = .int .i64 (k : Nat) ∧ ∀ j, j < k → limb (byt cm) j ≠ 10) (fun v => cm.size - (intOf v).toNat)
  case atStart => exact ⟨0, Nat.zero_le _, rfl, fun j hj => by omega⟩
  case round =>
    obtain ⟨k, hk, rfl, hno⟩ := hrel
    by_cases hkn : k < cm.size
    · have hki : ((k : Nat) : Int) < ((cm.size : Nat) : Int) := by omega
      have HNO := Lib.hid hno; clear hno
      by_cases h10 : limb (byt cm) k = 10
      · have hq : ((((cm[k]'hkn).toNat : Nat) : Int) == 10) = true := by
          rw [byt_limb hkn] at h10
          rw [beq_iff_eq]
          exact congrArg Int.ofNat h10
        clear h10
        go_wp2_with fail
        go_ret
        exact ⟨rfl, HB4.out⟩
      · have hq : ((((cm[k]'hkn).toNat : Nat) : Int) == 10) = false := by
          rw [beq_eq_false_iff_ne]
          intro he
          rw [byt_limb hkn] at h10
          exact h10 (Int.ofNat.inj he)
        have H10 := Lib.hid h10; clear h10
        go_wp2_with fail
        go_round
        case measure => simp only [intOf]; omega
        case rel =>
          refine ⟨k + 1, by omega, by go_num, fun j hj => ?_⟩
          rcases Nat.lt_or_eq_of_le (Nat.le_of_lt_succ hj) with h | rfl
          · exact HNO.out j h
          · exact H10.out
    · obtain rfl : k = cm.size := by omega
      have HNO := Lib.hid hno
      clear hno hk hkn
      have HC10 : Hid (∀ x ∈ (chA (byt cm)).1, x ≠ 10) := Lib.hid fun x hx e => by
        subst e
        have hm := chA_low (byt cm) (byt_by cm) (by decide) hx
        obtain ⟨j, hj, he⟩ := List.getElem_of_mem hm
        have := HNO.out j (by rw [← byt_len]; exact hj)
        rw [limb_lt hj] at this
        exact this he
      obtain ⟨m, hm⟩ : ∃ m, m = a % ps.length := ⟨_, rfl⟩
      have hml : m < ps.length := by rw [hm]; exact Nat.mod_lt _ (by omega)
      have hmt : ((a : Nat) : Int).tmod ((ps.length : Nat) : Int) = ((m : Nat) : Int) := by rw [hm]; rfl
      have hmi : ((m : Nat) : Int) < ((ps.length : Nat) : Int) := by omega
      obtain ⟨g, c4, hv4, hc4, hg4, hcells⟩ := HTK4.out.at' (j := m) hml
      simp only [Value.slice.injEq, true_and] at hv4
      obtain ⟨rfl, rfl⟩ := hv4
      have hc8 := hcells 8 (.int .i64 (((ps[m]'hml).1.pl : Nat) : Int)) rfl
      have HMX : Hid (ws[m]? = some (ps[m]'hml).1) := Lib.hid (by rw [← HPS.out, List.getElem?_map, List.getElem?_eq_getElem hml]; rfl)
      generalize (ps[m]'hml).1 = x at *
      clear hm hcells
      have hb5 := below1 w4 (.cells #[.int .i64 32, .int .i64 59] 3)
      have hown5 : (w4.alloc (.cells #[.int .i64 32, .int .i64 59] 3)).ownsRow w4.heap.size 3 1 (.slice (some ⟨w4.heap.size, 0, none⟩) 2 2) [32, 59].length (nc [32, 59]) := World.ownsRow_lit w4 #[.int .i64 32, .int .i64 59] 2 (Nat.le_refl _) (by decide) rfl
      have HO5 := Lib.hid hown5
      have HX5 := Lib.hid hb5
      clear hb5 hown5
      go_wp2_with fail
      refine (lchars_any cm _ (by omega)).mono ?_
      rintro e w6 ⟨v6, rfl, hv6, hb⟩
      have HX6 := Lib.hid (HX5.out.trans (hb.mono HX5.out.size))
      have HO6 := Lib.hid (owns_below HO5.out hb)
      have HCL : Hid ((chA (byt cm)).1.length ≤ 1048576) := Lib.hid (by have := chA_len (byt cm) (byt_by cm); rw [byt_len] at this; omega)
      have HSCM := Lib.hid (chA_sc (byt cm) (byt_by cm))
      generalize (chA (byt cm)).1 = cmc at *
      have HV6 : Hid (SlV w6 v6 (nc cmc)) := Lib.hid (slv_nat hv6)
      have hsz6 := HX6.out.size
      clear hb hv6 HO5 HX5 hc8
      go_wp2_with (first
        | (at_builtin; refine wpList_append_nc rfl _ _ 22 rfl w4.heap.size 3 i0 (.int .i64 0) Tryd.underlying22 hi hz0 hz1 hz2 rfl _ [32, 59] rfl HO6.out _ cmc rfl HV6.out (by have := HCL.out; simp only [List.length_cons, List.length_nil]; omega) hsz6 ?_; intro v7 w7 hown7 hgrow; have hlo6 := HO6.out.lt; have HX7 := Lib.hid (HX6.out.grown hgrow hsz6 (fun k hk => (hlo6 k hk).1)); have hsz7 := HX7.out.size; have HO7a := Lib.hid (World.ownsRow.alloc hown7 (.cells #[.int .i64 10, .int .i64 9] 3)); have hown8 : (w7.alloc (.cells #[.int .i64 10, .int .i64 9] 3)).ownsRow w4.heap.size 3 1 (.slice (some ⟨w7.heap.size, 0, none⟩) 2 2) [10, 9].length (nc [10, 9]) := World.ownsRow_lit w7 #[.int .i64 10, .int .i64 9] 2 hsz7 (by decide) rfl; have HV8 := Lib.hid (owns_slv hown8); have HX7a := Lib.hid (HX7.out.trans ((below1 w7 (.cells #[.int .i64 10, .int .i64 9] 3)).mono hsz7)); have hsz8 := HX7a.out.size; clear hown8 hown7 hgrow hlo6 HO6 HV6 HX6 hsz6 HX7 hsz7)
        | (at_builtin; refine wpList_append_nc rfl _ _ 22 rfl w4.heap.size 3 i0 (.int .i64 0) Tryd.underlying22 hi hz0 hz1 hz2 rfl _ ([32, 59] ++ cmc) rfl HO7a.out _ [10, 9] rfl HV8.out (by have := HCL.out; simp only [List.length_cons, List.length_nil, List.length_append]; omega) hsz8 ?_; intro v9 w9 hown9 hgrow))
      have hlo7 := HO7a.out.lt
      have HX9 := Lib.hid (HX7a.out.grown hgrow hsz8 (fun k hk => (hlo7 k hk).1))
      have e9 : [32, 59] ++ cmc ++ [10, 9] = mored cmc := by simp [mored]
      rw [e9] at hown9
      have HO9 := Lib.hid hown9
      clear hown9 hgrow hlo7 HO7a HV8 HX7a hsz8 e9
      go_wp2_with fail
      obtain ⟨vs, hvs, hshk, hcl⟩ := scan_blanks HC10.out (HCS.out.trans (by rw [← HWS.out])) HMX.out
      have HB9 := Lib.hid (HB4.out.trans (HX9.out.mono HB4.out.size))
      have HS9 := Lib.hid (HS4.out.below HX9.out)
      have HTK9 := Lib.hid (HTK4.out.below HX9.out)
      obtain ⟨ta, tb, hab, htl⟩ : ∃ ta tb, cs = ta ++ tb ∧ ta.length = x.pl := ⟨cs.take x.pl, cs.drop x.pl, (List.take_append_drop _ _).symm, by rw [List.length_take]; omega⟩
      rw [show cs.take x.pl = ta by rw [hab, ← htl, List.take_left], show cs.drop x.pl = tb by rw [hab, ← htl, List.drop_left]] at hvs
      have HVS := Lib.hid hvs
      have HSH := Lib.hid hshk
      rw [← htl] at hcl
      have hlen : cs.length = ta.length + tb.length := by rw [hab]; simp
      obtain ⟨b, off, hav, hb9, hcell⟩ : ∃ b off, av = some ⟨b, off, none⟩ ∧ b < w9.heap.size ∧ ∀ j, j < cs.length → w9.cell? ⟨b, off + j, none⟩ = some (.int .i64 ((limb cs j : Nat) : Int)) := by
        obtain ⟨_, a', c', hv, _, h⟩ := HS9.out
        simp only [Value.slice.injEq, true_and] at hv
        obtain ⟨rfl, rfl⟩ := hv
        rcases h with ⟨h, _⟩ | ⟨b, off, h1, h2, h3⟩
        · rw [h] at hcl; simp at hcl
        · exact ⟨b, off, h1, h2, h3⟩
      have hcap9 : cs.length ≤ cv := by obtain ⟨_, a', c', hv, h, _⟩ := HS9.out; simp only [Value.slice.injEq, true_and] at hv; rw [hv.2]; exact h
      subst hav
      have HNA : Hid (∀ W', Below w9.heap.size w9 W' → ∀ j u, (nc ta)[j]? = some u → W'.cell? ((⟨b, off, none⟩ : Addr).add j) = some u) := Lib.hid fun W' hW j u hu => by
        obtain ⟨h1, rfl⟩ := nc_at hu
        rw [Addr.add_lit, hW.cell (p := ⟨b, off + j, none⟩) hb9, hcell j (by omega), hab]
        unfold limb
        rw [List.getD_eq_getElem?_getD, List.getD_eq_getElem?_getD, List.getElem?_append_left h1]
      have HNB : Hid (∀ W', Below w9.heap.size w9 W' → ∀ j u, (nc tb)[j]? = some u → W'.cell? ((⟨b, off + ta.length, none⟩ : Addr).add j) = some u) := Lib.hid fun W' hW j u hu => by
        obtain ⟨h1, rfl⟩ := nc_at hu
        rw [Addr.add_lit, Nat.add_assoc, hW.cell (p := ⟨b, off + (ta.length + j), none⟩) hb9, hcell (ta.length + j) (by omega), hab]
        unfold limb
        rw [List.getD_eq_getElem?_getD, List.getD_eq_getElem?_getD, List.getElem?_append_right (by omega), Nat.add_sub_cancel_left]
      obtain ⟨g9, c9, hv9, _, hg9⟩ := HO9.out.form (by rw [mored_len]; omega)
      subst hv9
      have HNM : Hid (∀ W', Below w9.heap.size w9 W' → ∀ j u, (nc (mored cmc))[j]? = some u → W'.cell? ((⟨g9, 0, none⟩ : Addr).add j) = some u) := Lib.hid fun W' hW j u hu => by
        rw [Addr.add_lit, hW.cell (p := ⟨g9, 0 + j, none⟩) hg9]
        have := HO9.out.cells (g := g9) rfl j u hu
        rw [Addr.add_lit] at this
        exact this
      have HXL := Lib.hid htl
      rw [← htl]
      have hmo := mored_len cmc
      have hc1 : ((ta.length : Nat) : Int) ≤ ((cs.length : Nat) : Int) := by omega
      have hc2 : ((ta.length : Nat) : Int) ≤ ((cv : Nat) : Int) := by omega
      have hown10 : ((w9.alloc (.cells #[] 3)).drew).ownsRow w9.heap.size 3 1 (.slice (some ⟨w9.heap.size, 0, none⟩) 0 0) ([] : List Nat).length (nc []) := World.ownsRow_lit w9 #[] 0 (Nat.le_refl _) (by decide) rfl
      have HO10 := Lib.hid hown10
      have hb10 : Below w9.heap.size w9 ((w9.alloc (.cells #[] 3)).drew) := (below1 w9 _).drew
      have HX10 := Lib.hid hb10
      have hl10 : w9.heap.size ≤ ((w9.alloc (.cells #[] 3)).drew).heap.size := hb10.size
      have HLN := Lib.hid hlen
      have HAB := Lib.hid hab
      have hle5 : ta.length + tb.length ≤ 5000 := by omega
      have HMO := Lib.hid hmo
      have hsub : cs.length - ta.length = tb.length := by omega
      have hsubI : ((cs.length : Nat) : Int) - ((ta.length : Nat) : Int) = ((tb.length : Nat) : Int) := by omega
      have hlo10 := HO10.out.lt
      clear hvs hshk hab hcell hown10 hb10 HC10 HMX htl hlen hmo
      go_region_held_law (fun _ => True) (exact trivial)
        (first
          | (refine step_append_nc (by rfl) _ _ 22 (by rfl) w9.heap.size 3 i0 (.int .i64 0) Tryd.underlying22 hi hz0 hz1 hz2 rfl _ [] (by rfl) HO10.out ⟨b, off, none⟩ cv ta (by rfl) (HNA.out _ HX10.out) (by simp only [List.length_nil]; omega) hl10 ?_; intro v11 w11 hown11 hgrow11; have HX11 := Lib.hid (HX10.out.grown hgrow11 hl10 (fun k hk => (hlo10 k hk).1)); have hl11 := HX11.out.size; have hlo11 := hown11.lt)
          | (refine step_append_nc (by rfl) _ _ 22 (by rfl) w9.heap.size 3 i0 (.int .i64 0) Tryd.underlying22 hi hz0 hz1 hz2 rfl _ ([] ++ ta) (by rfl) hown11 ⟨g9, 0, none⟩ c9 (mored cmc) (by rfl) (HNM.out _ HX11.out) (by have := HMO.out; have := HCL.out; simp only [List.length_append, List.length_nil]; omega) hl11 ?_; intro v12 w12 hown12 hgrow12; have HX12 := Lib.hid (HX11.out.grown hgrow12 hl11 (fun k hk => (hlo11 k hk).1)); have hl12 := HX12.out.size; have hlo12 := hown12.lt)
          | (refine step_append_nc (by rfl) _ _ 22 (by rfl) w9.heap.size 3 i0 (.int .i64 0) Tryd.underlying22 hi hz0 hz1 hz2 rfl _ ([] ++ ta ++ mored cmc) (by rfl) hown12 ⟨b, off + ta.length, none⟩ (cv - ta.length) tb (by simp [Act.put, Act.eval]; intro h; exfalso; omega) (HNB.out _ HX12.out) (by have := HMO.out; have := HCL.out; simp only [List.length_append, List.length_nil]; omega) hl12 ?_; intro v13 w13 hown13 hgrow13; have HX13 := Lib.hid (HX12.out.grown hgrow13 hl12 (fun k hk => (hlo12 k hk).1))))
      rw [List.nil_append] at hown13
      have HO13 := Lib.hid hown13
      have HB13 := Lib.hid (HB9.out.trans (HX13.out.mono HB9.out.size))
      have HTK13 := Lib.hid (HTK9.out.below HX13.out)
      clear hown11 hown12 hown13 hgrow11 hgrow12 hgrow13 hlo10 hlo11 hlo12 hl10 hl11 hl12 hsub hsubI HO10 HX10 HX11 HX12 HNA HNB HNM hc1 hc2
      have hscl : ∀ c ∈ ta ++ mored cmc ++ tb, scN c := by
        intro c hc
        rcases List.mem_append.1 hc with hc | hc
        · rcases List.mem_append.1 hc with hc | hc
          · exact HSC.out c (by rw [HAB.out]; simp [hc])
          · exact mored_sc HSCM.out c hc
        · exact HSC.out c (by rw [HAB.out]; simp [hc])
      have hcall := scan_any v13 ((ta ++ mored cmc ++ tb).map fun (c : Nat) => (c : Int)) w13 (owns_slv HO13.out) (by have := HMO.out; have := HCL.out; simp only [List.length_map, List.length_append]; omega) (HT.out.below HB13.out) (HW.out.below HB13.out) (HM.out.below HB13.out)
      unfold ScanPost at hcall
      rw [scan_nat hscl, HVS.out] at hcall
      clear hscl
      simp only at hcall
      go_wp2_with fail
      refine hcall.mono ?_
      rintro e w14 ⟨v14, ps2, rfl, hps2, htk2, hpl2, hb⟩
      have HB14 := Lib.hid (HB13.out.trans (hb.mono HB13.out.size))
      have HTK14 := Lib.hid (HTK13.out.below hb)
      have HTM := Lib.hid htk2
      have HP2 := Lib.hid hps2
      obtain ⟨a14, c14, hv14⟩ := own_slice' htk2.own
      have hl2 : ps2.length = ps.length := by
        have h1 := shk_len _ _ HSH.out
        have h2 := congrArg List.length HPS.out
        have h3 := congrArg List.length HP2.out
        simp only [List.length_map] at h2 h3
        omega
      rw [hl2] at hv14
      subst hv14
      have HL2 := Lib.hid hl2
      clear hcall hb hps2 htk2 hpl2 hl2
      go_wp2_with fail
      go_loopw [18] (fun v wr => ∃ k : Nat, k ≤ ps.length ∧ v = .int .i64 (k : Nat) ∧ Below w14.heap.size w14 wr) (fun v _ => ps.length - (intOf v).toNat)
      case atStart => exact ⟨0, Nat.zero_le _, rfl, Below.refl _ _⟩
      case round =>
        obtain ⟨k, hk, rfl, hbel⟩ := hrel
        have HBL := Lib.hid hbel
        have HTKr := Lib.hid (HTK14.out.below hbel)
        have HTMr := Lib.hid (HTM.out.below hbel)
        clear hbel
        by_cases hkn : k < ps.length
        · have hki : ((k : Nat) : Int) < ((ps.length : Nat) : Int) := by omega
          obtain ⟨g1, e1, hv1, _, hg1, hcells⟩ := HTKr.out.at' (j := k) hkn
          simp only [Value.slice.injEq, true_and, Option.some.injEq, Addr.mk.injEq, and_true] at hv1
          obtain ⟨rfl, rfl⟩ := hv1
          obtain ⟨g2, e2, hv2, _, hg2, hcells2⟩ := HTMr.out.at' (j := k) (by rw [HL2.out]; exact hkn)
          rw [HL2.out] at hv2
          simp only [Value.slice.injEq, true_and] at hv2
          obtain ⟨rfl, rfl⟩ := hv2
          have hlb1 := HTKr.out.limbs _ (List.getElem_mem hkn)
          have hlb2 := HTMr.out.limbs _ (List.getElem_mem (show k < ps2.length by rw [HL2.out]; exact hkn))
          have hx1 : ws[k]? = some (ps[k]'hkn).1 := by rw [← HPS.out, List.getElem?_map, List.getElem?_eq_getElem hkn]; rfl
          have hx2 : vs[k]? = some (ps2[k]'(by rw [HL2.out]; exact hkn)).1 := by rw [← HP2.out, List.getElem?_map, List.getElem?_eq_getElem (by rw [HL2.out]; exact hkn)]; rfl
          obtain ⟨s1, s2, s3, s4⟩ := shk_at _ _ HSH.out k _ _ hx1 hx2
          have hpb := scan_pl (HCS.out.trans (by rw [← HWS.out])) hx1
          rw [← HXL.out] at s4
          generalize (ps[k]'hkn).1 = X at *
          generalize (ps[k]'hkn).2 = lv1 at *
          generalize (ps2[k]'(by rw [HL2.out]; exact hkn)).1 = Y at *
          generalize (ps2[k]'(by rw [HL2.out]; exact hkn)).2 = lv2 at *
          clear hx1 hx2
          obtain ⟨Xk, Xt, ⟨Dk, Dt, Dn, Dr⟩, Xa, Xp⟩ := X
          obtain ⟨Yk, Yt, Yd, Ya, Yp⟩ := Y
          simp only at s1 s2 s3 s4 hpb hlb1 hlb2
          replace s1 := s1.symm
          replace s2 := s2.symm
          subst s1
          subst s2
          subst s3
          obtain ⟨o1, l1, rfl⟩ : ∃ o c, lv1 = .slice o Dr.length c := by obtain ⟨_, a, c, h, _⟩ := hlb1; exact ⟨a, c, h⟩
          obtain ⟨o2, l2, rfl⟩ : ∃ o c, lv2 = .slice o Dr.length c := by obtain ⟨_, a, c, h, _⟩ := hlb2; exact ⟨a, c, h⟩
          have HLB1 := Lib.hid hlb1
          have HLB2 := Lib.hid hlb2
          have p0 : wr.cell? ⟨g, k * 9, none⟩ = some (.int .i64 (Xk : Nat)) := hcells 0 _ rfl
          have p1 := hcells 1 (.string (mkB Xt)) rfl
          have p2 := hcells 2 (.int .i64 (Dk : Nat)) rfl
          have p3 := hcells 3 (.string (mkB Dt)) rfl
          have p4 := hcells 4 (.bool Dn) rfl
          have p5 := hcells 5 (.slice o1 Dr.length l1) rfl
          have p6 := hcells 6 (.slice none 0 0) rfl
          have p7 := hcells 7 (.int .i64 (Xa : Nat)) rfl
          have p8 := hcells 8 (.int .i64 (Xp : Nat)) rfl
          have q0 : wr.cell? ⟨g2, k * 9, none⟩ = some (.int .i64 (Xk : Nat)) := hcells2 0 _ rfl
          have q1 := hcells2 1 (.string (mkB Xt)) rfl
          have q2 := hcells2 2 (.int .i64 (Dk : Nat)) rfl
          have q3 := hcells2 3 (.string (mkB Dt)) rfl
          have q4 := hcells2 4 (.bool Dn) rfl
          have q5 := hcells2 5 (.slice o2 Dr.length l2) rfl
          have q6 := hcells2 6 (.slice none 0 0) rfl
          have q7 := hcells2 7 (.int .i64 (Ya : Nat)) rfl
          have q8 := hcells2 8 (.int .i64 (Yp : Nat)) rfl
          clear hcells hcells2 hlb1 hlb2
          have hT : ((mkB Xt).toList != (mkB Xt).toList) = false := by simp
          have hK : (((Xk : Nat) : Int) != ((Xk : Nat) : Int)) = false := by simp
          have hml2 := HMO.out
          have hcl2 := HCL.out
          generalize hML : (mored cmc).length = M at *
          have hM : M ≤ 1048580 := by omega
          clear hml2 hcl2
          by_cases hge : ta.length ≤ Xp
          · have hgI : ((ta.length : Nat) : Int) ≤ ((Xp : Nat) : Int) := by omega
            rw [if_pos hge] at s4
            have hw1 : IntKind.i64.wrap (((Xp : Nat) : Int) + ((M : Nat) : Int)) = ((Xp : Nat) : Int) + ((M : Nat) : Int) := by
              rw [show ((Xp : Nat) : Int) + ((M : Nat) : Int) = (((Xp + M : Nat)) : Int) by omega]
              exact wrap_nat (by omega)
            have hP : (((Yp : Nat) : Int) != ((Xp : Nat) : Int) + ((M : Nat) : Int)) = false := by rw [s4]; simp
            clear s4
            go_wp2_with fail
            go_still_tail 50, (by kernel_rfl)
            change wpList _ _ _ _ _ wr.drew
            have HBd := Lib.hid HBL.out.drew
            have HD1 := Lib.hid (HLB1.out.below (Below.refl wr.heap.size wr).drew)
            have HD2 := Lib.hid (HLB2.out.below (Below.refl wr.heap.size wr).drew)
            clear p0 p1 p2 p3 p4 p5 p6 p7 p8 q0 q1 q2 q3 q4 q5 q6 q7 q8
            generalize wr.drew = W2 at *
            go_wp2_with fail
            refine (rsame_leaf Dk Dt Dn Dr Ya l2 Xa l1 o2 o1 _ HD2.out HD1.out).mono ?_
            rintro e W3 ⟨rfl, hb3⟩
            have HB3' := Lib.hid (HBd.out.trans (hb3.mono HBd.out.size))
            clear hb3
            go_wp2_with fail
            go_roundw
            case measure => simp only [intOf]; omega
            case rel => exact ⟨k + 1, by omega, by go_num, HB3'.out⟩
          · have hgI : ¬ ((ta.length : Nat) : Int) ≤ ((Xp : Nat) : Int) := by omega
            rw [if_neg hge] at s4
            have hw1 : IntKind.i64.wrap ((Xp : Nat) : Int) = ((Xp : Nat) : Int) := wrap_nat (by omega)
            have hP : (((Yp : Nat) : Int) != ((Xp : Nat) : Int)) = false := by rw [s4]; simp
            clear s4
            go_wp2_with fail
            go_still_tail 50, (by kernel_rfl)
            change wpList _ _ _ _ _ wr.drew
            have HBd := Lib.hid HBL.out.drew
            have HD1 := Lib.hid (HLB1.out.below (Below.refl wr.heap.size wr).drew)
            have HD2 := Lib.hid (HLB2.out.below (Below.refl wr.heap.size wr).drew)
            clear p0 p1 p2 p3 p4 p5 p6 p7 p8 q0 q1 q2 q3 q4 q5 q6 q7 q8
            generalize wr.drew = W2 at *
            go_wp2_with fail
            refine (rsame_leaf Dk Dt Dn Dr Ya l2 Xa l1 o2 o1 _ HD2.out HD1.out).mono ?_
            rintro e W3 ⟨rfl, hb3⟩
            have HB3' := Lib.hid (HBd.out.trans (hb3.mono HBd.out.size))
            clear hb3
            go_wp2_with fail
            go_roundw
            case measure => simp only [intOf]; omega
            case rel => exact ⟨k + 1, by omega, by go_num, HB3'.out⟩
        · obtain rfl : k = ps.length := by omega
          go_wp2_with fail
          go_ret
          exact ⟨rfl, HB14.out.trans (HBL.out.mono HB14.out.size)⟩
theorem blanks_int (s cm : ByteArray) (a : Int) (w : World) (hs : s.size ≤ 1048576) (hs2 : cm.size ≤ 1048576) (ht : Tabs2 w) (hwd : Words w) (hmk : Marks w) (h0 : 0 ≤ a) (h1 : a ≤ 255) :
    Calls Tryd.prog 3 #[.string s, .int .u8 a, .string cm] w (TruePost w) := by
  obtain ⟨b, rfl⟩ := Int.eq_ofNat_of_zero_le h0
  exact blanks_any s cm b (by omega) w hs hs2 ht hwd hmk
end Go.Proofs.YtkocmjmmflphnaaDoor
