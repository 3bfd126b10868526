/- Rows of words, as append lays them: what lies in the spare is no limb. | (*scanner).words | token.Scan -/
import Derived.Test.YtpahfhjgcflifaaGreatDoorTkEnc
import Derived.Laws.AppendOwn
import Derived.Test.YtpahfhjgcflifaaGreatDoorTkChr
import Derived.Defers
import Derived.Recover
import Derived.Laws.Pointers
namespace Go.Proofs.YtpahfhjgcflifaaGreatDoor
open Go.RowKit

/-- No limb. -/
def NU (v : Value) : Prop := ∀ x, v ≠ .int .u32 x
/-- A row that the call owns, in which the spare holds no limb either. -/
def OwnQ (w : World) (base : Nat) (e : TypeId) (size : Nat) (v : Value) (n : Nat) (xs : List Value) : Prop :=
  xs.length = n * size ∧
  ((v = .slice none 0 0 ∧ n = 0) ∨
   ∃ g cap cur, v = .slice (some ⟨g, 0, none⟩) n cap ∧ base ≤ g ∧ w.heap[g]? = some (.cells cur e (0, 0)) ∧ n ≤ cap ∧ cap ≤ maxLen ∧ cur.size = cap * size ∧ cur.toList.take (n * size) = xs ∧ ∀ u ∈ cur.toList.drop (n * size), NU u)
theorem OwnQ.own {w : World} {base : Nat} {e : TypeId} {size : Nat} {v : Value} {n : Nat} {xs : List Value} (h : OwnQ w base e size v n xs) : w.ownsRow base e size v n xs := by
  refine ⟨h.1, ?_⟩
  rcases h.2 with hn | ⟨g, cap, cur, h1, h2, h3, h4, h5, h6, h7, _⟩
  · exact .inl hn
  · exact .inr ⟨g, cap, cur, h1, h2, h3, h4, h5, h6, h7⟩
theorem OwnQ.nil (w : World) (base : Nat) (e : TypeId) (size : Nat) : OwnQ w base e size (.slice none 0 0) 0 [] := ⟨by simp, .inl ⟨rfl, rfl⟩⟩
theorem OwnQ.kept {w w' : World} {base : Nat} {e : TypeId} {size : Nat} {v : Value} {n : Nat} {xs : List Value} {row : Option Nat} (h : OwnQ w base e size v n xs) (hg : w.grownBy w' row) (hne : ∀ g, v.ownBlock = some g → row ≠ some g) : OwnQ w' base e size v n xs := by
  refine ⟨h.1, ?_⟩
  rcases h.2 with hn | ⟨g, cap, cur, rfl, h2, h3, rest⟩
  · exact .inl hn
  · exact .inr ⟨g, cap, cur, rfl, h2, (hg.block g (Array.getElem?_eq_some_iff.1 h3).1 (fun e => hne g rfl e.symm)).trans h3, rest⟩
theorem OwnQ.ks {w w' : World} {base n size g : Nat} {e : TypeId} {v : Value} {xs : List Value} (h : OwnQ w base e size v n xs) (hk : Ks g w w') (hg : g < base) : OwnQ w' base e size v n xs :=
  h.kept hk.grownBy (fun b hb he => by have := (h.own.lt b hb).1; injection he with he; omega)
theorem OwnQ.alloc {w : World} {base n size : Nat} {e : TypeId} {v : Value} {xs : List Value} (h : OwnQ w base e size v n xs) (o : Obj) : OwnQ (w.alloc o) base e size v n xs :=
  h.kept (World.grownBy_alloc w o none) (fun _ _ h => by cases h)
theorem OwnQ.below {w w' : World} {base n size : Nat} {e : TypeId} {v : Value} {xs : List Value} (h : OwnQ w base e size v n xs) (hb : Below w.heap.size w w') : OwnQ w' base e size v n xs :=
  h.kept (row := none) ⟨hb.os, hb.tape, hb.output, hb.size, fun k hk _ => hb.block k hk⟩ (fun _ _ h => by cases h)

section
variable {P : Program} (w : World)
theorem mem_zeroCells {z : Array Value} (hz : ∀ u ∈ z.toList, NU u) : ∀ (n : Nat), ∀ u ∈ (Builtin.zeroCells z n).toList, NU u := by
  intro n u hu
  unfold Builtin.zeroCells at hu
  simp at hu
  obtain ⟨k, hk, rfl⟩ := hu
  have hpos : 0 < z.size := by
    apply Nat.pos_of_ne_zero
    intro h0
    rw [h0] at hk
    simp at hk
  have hlt := Nat.mod_lt k hpos
  rw [getElem!_pos z _ hlt]
  exact hz _ (by simp)

/-- append onto such a row. -/
theorem run_append_q (base : Nat) (t ty e : TypeId) (i : TypeInfo) (z : Value) (size bytes : Nat) (ht : P.underlying t = some (.slice e)) (hi : P.info? e = some i) (hz : i.zero = some z)
    (hsize : i.size = size) (hby : i.bytes = bytes) (hzs : z.cells.size = size) (_hsz : 0 < size) (hzu : ∀ u ∈ z.cells.toList, NU u)
    (v : Value) (n : Nat) (xs : List Value) (hown : OwnQ w base e size v n xs)
    (a : Addr) (m c : Nat) (news : List Value) (hl : news.length = m * size) (hnews : ∀ j u, news[j]? = some u → w.cell? (a.add j) = some u) (h1 : ∀ u ∈ news, u.oneCell' = true) (hm : 0 < m)
    (h63 : n + m ≤ maxLen) (hbytes : (n + m) * bytes ≤ 140737488355328) (hbase : base ≤ w.heap.size) :
    ∃ v' w', (Builtin.append_ #[t, t] ty #[v, .slice (some a) m c]).run P w = .ok v' w' ∧ OwnQ w' base e size v' (n + m) (xs ++ news) ∧ w.grownBy w' v.ownBlock ∧ U32S w w' := by
  subst hsize
  subst hby
  have hsmall : n + m ≤ 9223372036854775807 := by simp only [maxLen] at h63; omega
  have hlen : (xs ++ news).length = (n + m) * i.size := by rw [List.length_append, hown.1, hl, Nat.add_mul]
  have grown : ∀ (old : Nat), old < n + m → ∀ (row : Option Nat),
      OwnQ (w.drew.alloc (.cells (xs.toArray ++ news.toArray ++ Builtin.zeroCells z.cells (grownCap w (n + m) old e - (n + m))) e)) base e i.size
        (.slice (some ⟨w.heap.size, 0, none⟩) (n + m) (grownCap w (n + m) old e)) (n + m) (xs ++ news) ∧
      w.grownBy (w.drew.alloc (.cells (xs.toArray ++ news.toArray ++ Builtin.zeroCells z.cells (grownCap w (n + m) old e - (n + m))) e)) row ∧
      U32S w (w.drew.alloc (.cells (xs.toArray ++ news.toArray ++ Builtin.zeroCells z.cells (grownCap w (n + m) old e - (n + m))) e)) := by
    intro old ho row
    have hge := grownCap_ge w (n + m) old e
    have hcm : grownCap w (n + m) old e ≤ maxLen := grownCap_le_maxLen w (n + m) old e h63
    refine ⟨⟨hlen, .inr ⟨w.heap.size, _, _, rfl, hbase, heap_alloc_new w.drew _, hge, hcm, ?_, ?_, ?_⟩⟩, ⟨rfl, rfl, rfl, by simp, fun k hk _ => Below.heap_alloc w.drew _ k hk⟩, U32S.below (((Below.refl w.heap.size w).drew).alloc (by simp) _)⟩
    · simp only [Array.size_append, List.size_toArray, size_zeroCells, hzs, hown.1, hl, ← Nat.add_mul]
      congr 1
      omega
    · simp only [Array.toList_append, List.append_assoc]
      rw [← List.append_assoc, ← hlen]
      exact List.take_left
    · simp only [Array.toList_append, List.append_assoc]
      rw [← List.append_assoc, ← hlen, List.drop_left]
      exact mem_zeroCells hzu _
  rcases hown.2 with ⟨rfl, rfl⟩ | ⟨g, cap, cur, rfl, hbg, hg, hnc, hcm, hcs, htake, hspare⟩
  · have hx : xs = [] := List.eq_nil_of_length_eq_zero (by simpa using hown.1)
    subst hx
    have hr := run_append_nil (P := P) w t ty e i z ht hi hz a m c news hl hnews (by omega) (by omega) (by have hb := hbytes; simp only [Nat.zero_add] at hb; omega)
    have hgr := grown 0 (by omega) (Value.ownBlock (.slice none 0 0))
    simp only [Nat.zero_add, List.nil_append, Array.empty_append] at hgr ⊢
    exact ⟨_, _, hr, hgr.1, hgr.2.1, hgr.2.2⟩
  · by_cases hroom : n + m ≤ cap
    · have hfit : n * i.size + news.length ≤ cur.size := by rw [hl, hcs, ← Nat.add_mul]; exact Nat.mul_le_mul_right _ hroom
      have hr := run_append_room (P := P) w t ty e i ht hi g n cap cur hg a m c news hl hnews h1 hroom hfit
      have hgb : w.grownBy (w.setRow g (cur.toList.take (n * i.size) ++ news ++ cur.toList.drop (n * i.size + news.length)).toArray) (some g) :=
        ⟨rfl, rfl, rfl, by simp, fun k _ hk => setRow_other w g k _ (fun e => hk (by rw [e]))⟩
      refine ⟨_, _, hr, ⟨hlen, .inr ⟨g, cap, _, rfl, hbg, setRow_heap w g cur _ e _ hg, hroom, hcm, ?_, ?_, ?_⟩⟩, hgb, ?_⟩
      · simp only [List.size_toArray, List.length_append, List.length_take, List.length_drop, Array.length_toList]
        omega
      · rw [htake, ← hlen]
        exact List.take_left
      · rw [htake, ← hlen]
        simp only [List.drop_left]
        intro u hu
        refine hspare u ?_
        have e1 : cur.toList.drop (n * i.size + news.length) = (cur.toList.drop (n * i.size)).drop news.length := by rw [List.drop_drop]
        rw [e1] at hu
        exact List.mem_of_mem_drop hu
      · refine ⟨hgb.size, fun b o x hx => ?_⟩
        by_cases hbg2 : b = g
        · subst hbg2
          rw [cell_of_row w b o cur e (0, 0) hg] at hx
          rw [cell_of_row _ b o _ e (0, 0) (setRow_heap w b cur _ e _ hg)]
          have hx2 : cur.toList[o]? = some (.int .u32 x) := by simpa using hx
          have ho : o < n * i.size := by
            apply Classical.byContradiction
            intro hno
            have : (cur.toList.drop (n * i.size))[o - n * i.size]? = some (.int .u32 x) := by
              rw [List.getElem?_drop]
              rw [show n * i.size + (o - n * i.size) = o by omega]
              exact hx2
            exact hspare _ (List.mem_of_getElem? this) x rfl
          simp only [List.getElem?_toArray]
          rw [List.append_assoc, List.getElem?_append_left (by rw [List.length_take, Array.length_toList]; omega), List.getElem?_take, if_pos ho]
          exact hx2
        · rw [World.cell?_of_block (w := w) (hgb.block b (World.block_lt_of_cell? w ⟨b, o, none⟩ hx) (fun e => hbg2 (Option.some.inj e)))]
          exact hx
    · have holds : ∀ j u, xs[j]? = some u → w.cell? ((⟨g, 0, none⟩ : Addr).add j) = some u := hown.own.cells (g := g) rfl
      have hr := run_append_grow (P := P) w t ty e i z ht hi hz ⟨g, 0, none⟩ n cap xs hown.1 holds a m c news hl hnews (by omega) (by omega) (growslice_fits (by omega) hbytes)
      have hgr := grown cap (by omega) (Value.ownBlock (.slice (some ⟨g, 0, none⟩) n cap))
      exact ⟨_, _, hr, hgr.1, hgr.2.1, hgr.2.2⟩
end

theorem wpList_append_q {P : Program} {w : World} {ops : Array Oper} {rest : List Oper} {o : Oper} {a : Act} {Q : Exit → Act → World → Prop} (hgd : o.guard = none) (s x : Operand) (t : TypeId)
    (ho : o.op = .call { callee := .builtin .append, args := #[s, x], argTypes := #[t, t] })
    (base : Nat) (e : TypeId) (i : TypeInfo) (z : Value) (size bytes : Nat) (ht : P.underlying t = some (.slice e)) (hi : P.info? e = some i) (hz : i.zero = some z)
    (hsize : i.size = size) (hby : i.bytes = bytes) (hzs : z.cells.size = size) (hsz : 0 < size) (hzu : ∀ u ∈ z.cells.toList, NU u)
    (v : Value) (n : Nat) (xs : List Value) (hs : a.eval s = v) (hown : OwnQ w base e size v n xs)
    (ad : Addr) (m c : Nat) (news : List Value) (hx : a.eval x = .slice (some ad) m c) (hl : news.length = m * size) (hnews : ∀ j u, news[j]? = some u → w.cell? (ad.add j) = some u) (h1 : ∀ u ∈ news, u.oneCell' = true) (hm : 0 < m)
    (h63 : n + m ≤ maxLen) (hbytes : (n + m) * bytes ≤ 140737488355328) (hbase : base ≤ w.heap.size)
    (h : ∀ v' w', OwnQ w' base e size v' (n + m) (xs ++ news) → w.grownBy w' v.ownBlock → U32S w w' → wpList P ops Q rest (a.put o.dst v') w') : wpList P ops Q (o :: rest) a w := by
  refine wpList_plain hgd fun K hK => ?_
  obtain ⟨v', w', hr, h2, h3, h4⟩ := run_append_q (P := P) w base t o.type e i z size bytes ht hi hz hsize hby hzs hsz hzu v n xs hown ad m c news hl hnews h1 hm h63 hbytes hbase
  unfold Oper.wp execOp
  simp only [ho, resolve, invoke, builtin, Sem.run_bind, Sem.run_pure, Result.andThen_ok, List.map_toArray, List.map_cons, List.map_nil, hs, hx, hr]
  exact hK _ _ (h v' w' h2 h3 h4)
end Go.Proofs.YtpahfhjgcflifaaGreatDoor
namespace Go.Proofs.YtpahfhjgcflifaaGreatDoor
open Go.RowKit

theorem parA_ok {s : ByteArray} (h : (parA s).2.2 = true) : okA s := by
  unfold parA at h
  split at h
  · rename_i hx
    have h2 := hx.choose_spec
    rcases h2 with h2 | h2
    · exact h2.1
    · rw [h2.1] at h; cases h
  · cases h
theorem atmA_nil : atmA [] = none := by
  have h1 : ¬ ([] : List Nat) = tTrue := by decide
  have h2 : ¬ ([] : List Nat) = tTrue' := by decide
  have h3 : ¬ ([] : List Nat) = tFalse := by decide
  have h4 : ¬ ([] : List Nat) = tFalse' := by decide
  unfold atmA
  rw [if_neg (by rintro (h | h); exact h1 h; exact h2 h), if_neg (by rintro (h | h); exact h3 h; exact h4 h)]
  rw [if_neg, if_neg]
  · rw [symA_not (.inl rfl)]; simp
  · intro h
    have := (parA_ok h).1
    have hs : (mkB []).size = 0 := rfl
    omega
theorem mText_pos : ∀ k : Fin 12, 1 ≤ (mText k.val).length := by decide
theorem markA_lt {cs : List Nat} {i k : Nat} (h : markA cs i = some k) : k < 12 := by
  unfold markA at h
  have := List.mem_of_find?_eq_some h
  simpa using this
theorem wrdA_gt {cs : List Nat} {p j : Nat} {x : Wd} (h : wrdA cs p = some (x, j)) : p < j := by
  have hne : ∀ k, p ≤ k → encL (cutN cs p k) ≠ [] → p < k := by
    intro k hk hn
    apply Classical.byContradiction
    intro hno
    have : k = p := by omega
    rw [this, cutN_nil] at hn
    exact hn rfl
  unfold wrdA at h
  cases hm : markA cs p with
  | some k =>
    rw [hm] at h
    injection h with h; injection h with _ h
    have := mText_pos ⟨k, markA_lt hm⟩
    simp only at this
    omega
  | none =>
    rw [hm] at h
    simp only [] at h
    split at h
    · rw [Option.map_eq_some_iff] at h
      obtain ⟨⟨l, j'⟩, hq, h⟩ := h
      injection h with _ h
      have := quoA_gt _ _ _ _ _ rfl hq
      simp only at h
      omega
    · split at h
      · rw [Option.map_eq_some_iff] at h
        obtain ⟨⟨c, j'⟩, hq, h⟩ := h
        injection h with _ h
        have := chrA_gt hq
        simp only at h
        omega
      · split at h
        · rename_i hd
          injection h with h; injection h with _ h
          rw [← h]
          exact hne _ til_ge' (by rw [hd]; simp)
        · rw [Option.map_eq_some_iff] at h
          obtain ⟨d, hq, h⟩ := h
          injection h with _ h
          rw [← h]
          refine hne _ til_ge' (fun he => ?_)
          rw [he, atmA_nil] at hq
          cases hq
theorem wdsA_end {cs : List Nat} {i : Nat} {acc : List Wd} (h : cs.length ≤ skp cs i) : wdsA cs i acc = (acc, none) := by rw [wdsA, if_neg (by omega)]
theorem wdsA_bad {cs : List Nat} {i : Nat} {acc : List Wd} (h : skp cs i < cs.length) (h1 : wrdA cs (skp cs i) = none) : wdsA cs i acc = ([], some (skp cs i)) := by rw [wdsA, if_pos h, h1]
theorem wdsA_step {cs : List Nat} {i j : Nat} {x : Wd} {acc : List Wd} (h : skp cs i < cs.length) (h1 : wrdA cs (skp cs i) = some (x, j)) : wdsA cs i acc = wdsA cs j (acc ++ [x]) := by
  have h2 := wrdA_gt h1
  have h3 := (skp_facts _ i rfl (cs := cs)).1
  rw [wdsA, if_pos h, h1]
  exact if_pos (by omega)

theorem meas_lt {L p j s n : Nat} (h1 : p < L) (h2 : p < j) (h3 : j ≤ s) (hm : L - p ≤ n) : L - s < n := by omega
/-- A word's cells. -/
def wdL (x : Wd) (lv : Value) : List Value := [.int .i64 (x.kind : Nat), .string (mkB x.txt), .int .i64 (x.d.k : Nat), .string (mkB x.d.t), .bool x.d.n, lv, .slice none 0 0, .int .i64 (x.dat : Nat), .int .i64 (x.pl : Nat)]
/-- The cells of words; their limbs' slices beside them. -/
def wcells (ps : List (Wd × Value)) : List Value := ps.flatMap fun p => wdL p.1 p.2
theorem wcells_snoc (ps : List (Wd × Value)) (p : Wd × Value) : wcells (ps ++ [p]) = wcells ps ++ wdL p.1 p.2 := by simp [wcells]
theorem infoTok : (Tryz.prog.info? 61).map (fun i => (i.zero, i.size, i.bytes)) = some (some (.agg #[.int .i64 0, .string ⟨#[]⟩, .int .i64 0, .string ⟨#[]⟩, .bool false, .slice none 0 0, .slice none 0 0, .int .i64 0, .int .i64 0]), 9, 120) := by kernel_rfl
theorem zeroTok : ∀ u ∈ (Value.agg #[.int .i64 0, .string ⟨#[]⟩, .int .i64 0, .string ⟨#[]⟩, .bool false, .slice none 0 0, .slice none 0 0, .int .i64 0, .int .i64 0]).cells.toList, NU u := by
  intro u hu
  simp [Value.cells] at hu
  rcases hu with rfl | rfl | rfl | rfl | rfl | rfl | rfl | rfl | rfl <;> (intro x; simp)
theorem new_cells (w : World) (cs : Array Value) (e : TypeId) : ∀ j u, cs.toList[j]? = some u → (w.alloc (.cells cs e (0, 0))).cell? ((⟨w.heap.size, 0, none⟩ : Addr).add j) = some u := by
  intro j u hu
  rw [Addr.add_mid, Nat.zero_add, cell_of_row _ _ _ _ _ (0, 0) (heap_alloc_new w _)]
  simpa using hu
/-- Words as they lie in memory. -/
structure TkSl (w : World) (base : Nat) (v : Value) (ps : List (Wd × Value)) : Prop where
  own : OwnQ w base 61 9 v ps.length (wcells ps)
  limbs : ∀ p ∈ ps, Sl .u32 w p.2 p.1.d.r
/-- What words answers. -/
def WsPost (cs : List Nat) (g : Nat) (w : World) (e : Ending) (w' : World) : Prop :=
  Ks g w w' ∧ ((∃ v ps, wdsA cs 0 [] = (ps.map (·.1), none) ∧ e = .returned v ∧ TkSl w' w.heap.size v ps ∧ ps.length ≤ 2000000) ∨ (∃ l p, wdsA cs 0 [] = (l, some p) ∧ e = .panicked (flt p)))

set_option maxRecDepth 100000 in
set_option maxHeartbeats 8000000 in
theorem words_any (W : World) (g : Nat) (sv : Value) (cs : List Nat) (f0 : Nat) (w : World) (hs : Sc w g sv cs f0 0) (hgl : Gl W w g) :
    Calls Tryz.prog 54 #[.pointer (some ⟨g, 0, none⟩)] w (WsPost cs g w) := by
  obtain ⟨i0, hi, hz0, hz1, hz2⟩ := info_parts infoTok
  have HS := Lib.hid hs
  have HG := Lib.hid hgl; clear hgl
  have hlt := hs.lt
  have hlen := hs.small
  clear hs
  go_enter Tryz.func54, Tryz.ntmps54
  go_wp2_with fail
  refine (skip_any g sv cs f0 0 _ HS.out).mono ?_
  rintro e w1 ⟨rfl, hs1, hk1⟩
  have HS1 := Lib.hid hs1
  have HK1 := Lib.hid hk1
  clear hs1 hk1
  go_wp2_with fail
  go_loopg [3] (cs.length - skp cs 0) (fun gk v wr => ∃ i f ps, Sc wr g sv cs f (skp cs i) ∧ wdsA cs i (ps.map (·.1)) = wdsA cs 0 [] ∧ TkSl wr w.heap.size v ps ∧ ps.length ≤ i ∧ Ks g w wr ∧ cs.length - skp cs i ≤ gk)
  case atStart => exact ⟨0, f0, [], HS1.out, rfl, ⟨OwnQ.nil _ _ _ _, fun p hp => by cases hp⟩, Nat.le_refl _, HK1.out, Nat.le_refl _⟩
  case round =>
    obtain ⟨i, f, ps, hsc, hwd, htk, hpi, hks, hm⟩ := hrel
    have HWD := Lib.hid hwd
    have HTK := Lib.hid htk
    have HK := Lib.hid hks
    have HSC := Lib.hid hsc
    obtain ⟨ao, cap, hsv, hcap, _⟩ := hsc.open'
    subst hsv
    obtain ⟨c0, c1, c2, f1, f2⟩ := hsc.box.facts
    have hle := hsc.le
    have hig := (skp_facts _ i rfl (cs := cs)).1
    clear hsc hwd htk hks
    generalize hp : skp cs i = p at *
    have HP := Lib.hid hp
    clear hp
    rcases Nat.lt_or_eq_of_le hle with hpl | hpl
    · have hplt : (p : Int) < (cs.length : Int) := by omega
      go_wp2_with fail
      go_quiet (fail)
      go_wp2_with fail
      have hkq := HK.out.drewN nq
      have hbq : Below wr.heap.size wr (wr.drewN nq) := below_drewN (Below.refl _ _) nq
      refine (word_any W g _ cs f p _ (HSC.out.drewN nq) (HG.out.ks hkq) hpl).mono ?_
      rintro e w2 ⟨hk2, ⟨x, j, lv, hx, rfl, hlv, hs2⟩ | ⟨hx, rfl⟩⟩
      · have hjp := wrdA_gt hx
        have hjl := hs2.le
        have HX := Lib.hid (wdsA_step (acc := ps.map (·.1)) (by rw [HP.out]; exact hpl) (by rw [HP.out]; exact hx))
        have HL2 : Hid (∀ q ∈ ps, Sl .u32 w2 q.2 q.1.d.r) := Lib.hid fun q hq => ((HTK.out.limbs q hq).below hbq).u32s (U32S.ks hk2 (HSC.out.drewN nq).noU)
        have HOW := Lib.hid ((HTK.out.own.below hbq).ks hk2 hlt)
        have HLV := Lib.hid hlv
        obtain ⟨_, av, cv, rfl, _, _⟩ := hlv
        have HS2 := Lib.hid hs2
        have HK2 := Lib.hid (hkq.trans hk2)
        have hw2 := HK2.out.size
        clear hkq hbq hk2 hx hs2 c0 c1 c2 f1 f2
        unfold wdV
        go_wp2_with (at_builtin; go_loud (refine wpList_append_q rfl _ _ 57 rfl w.heap.size 61 i0 (.agg #[.int .i64 0, .string ⟨#[]⟩, .int .i64 0, .string ⟨#[]⟩, .bool false, .slice none 0 0, .slice none 0 0, .int .i64 0, .int .i64 0]) 9 120 Tryz.underlying57 hi hz0 hz1 hz2 rfl (by decide) zeroTok _ ps.length (wcells ps) rfl (HOW.out.alloc _) ⟨w2.heap.size, 0, none⟩ 1 1 (wdL x (.slice av x.d.r.length cv)) rfl (by simp [wdL]) (fun j u h => new_cells w2 _ _ j u h) (by intro u hu; simp [wdL] at hu; rcases hu with rfl | rfl | rfl | rfl | rfl | rfl | rfl | rfl | rfl <;> rfl) (by decide) (by unfold maxLen; omega) (by omega) (by simp; omega) ?_); intro v' w4 hown1 hgrow hu)
        have hgrow' : World.grownBy _ w4 (Value.ownBlock u3) := hgrow
        have hlo := HOW.out.own.lt
        have HK4 := Lib.hid ((HK2.out.alloc hlt _).grown hlt hgrow' (fun k hk => (hlo k hk).1))
        have hsvb := HS.out.svb (by omega)
        have HS4 := Lib.hid ((HS2.out.alloc _).grown hgrow' (fun e => by have := (hlo g e).1; omega) (fun b hb e => by have := (hlo b e).1; have := hsvb b hb; omega))
        have HL4 : Hid (∀ q ∈ ps ++ [(x, .slice av x.d.r.length cv)], Sl .u32 w4 q.2 q.1.d.r) := Lib.hid fun q hq => by
          rcases List.mem_append.1 hq with hq | hq
          · exact ((HL2.out q hq).below (below1 w2 _)).u32s hu
          · rw [List.mem_singleton] at hq; rw [hq]; exact (HLV.out.below (below1 w2 _)).u32s hu
        have HOW4 := Lib.hid hown1
        clear hgrow hgrow' hlo hsvb hown1 hu
        refine (skip_any g _ cs p j _ HS4.out).mono ?_
        rintro e w5 ⟨rfl, hs5, hk5⟩
        have HS5 := Lib.hid hs5
        have HK5 := Lib.hid (HK4.out.trans hk5)
        have HL5 : Hid (∀ q ∈ ps ++ [(x, .slice av x.d.r.length cv)], Sl .u32 w5 q.2 q.1.d.r) := Lib.hid fun q hq => (HL4.out q hq).u32s (U32S.ks hk5 HS4.out.noU)
        have HOW5 := Lib.hid (HOW4.out.ks hk5 hlt)
        have hsj := (skp_facts _ j rfl (cs := cs)).1
        clear hs5 hk5
        go_wp2_with fail
        go_roundg (cs.length - skp cs j)
        case measure => exact meas_lt hpl hjp hsj hm
        case rel =>
          refine ⟨j, p, ps ++ [(x, .slice av x.d.r.length cv)], HS5.out, ?_, ⟨?_, HL5.out⟩, by simp; omega, HK5.out, Nat.le_refl _⟩
          · rw [List.map_append]
            exact HX.out.symm.trans HWD.out
          · have h5 := HOW5.out
            rw [wcells_snoc, List.length_append]
            exact h5
      · exact ⟨rfl, hkq.trans hk2, .inr ⟨_, p, HWD.out.symm.trans (by rw [← HP.out]; exact wdsA_bad (by rw [HP.out]; exact hpl) (by rw [HP.out]; exact hx)), rfl⟩⟩
    · have hplt : ¬ (p : Int) < (cs.length : Int) := by omega
      have HE := Lib.hid (HWD.out.symm.trans (wdsA_end (by rw [HP.out]; omega)))
      go_wp2_with fail
      go_quiet (fail)
      go_wp2_with fail
      go_ret
      exact ⟨HK.out.drewN _, .inl ⟨_, ps, HE.out, rfl, ⟨HTK.out.own.below (below_drewN (Below.refl _ _) _), fun q hq => (HTK.out.limbs q hq).below (below_drewN (Below.refl _ _) _)⟩, by omega⟩⟩
end Go.Proofs.YtpahfhjgcflifaaGreatDoor
namespace Go.Proofs.YtpahfhjgcflifaaGreatDoor
open Go.RowKit

set_option maxRecDepth 100000 in
theorem assert_fault (p : Int) (w : World) : Sem.run Tryz.prog (Instr.typeAssert (.iface 95 (.agg #[.int .i64 p])) 20 95 true) w = .ok (.tuple #[.agg #[.int .i64 p], .bool true]) w := by
  rfl
set_option maxRecDepth 100000 in
theorem assert_nil (w : World) : Sem.run Tryz.prog (Instr.typeAssert .nilIface 20 95 true) w = .ok (.tuple #[.agg #[.int .i64 0], .bool false]) w := by
  rfl

/-- The three result boxes. -/
structure Box3 (w : World) (b : Nat) (x0 x1 x2 : Value) : Prop where
  r0 : w.heap[b]? = some (.cells #[x0] 57 (0, 0))
  r1 : w.heap[b + 1]? = some (.cells #[x1] 3 (0, 0))
  r2 : w.heap[b + 2]? = some (.cells #[x2] 35 (0, 0))
theorem Box3.lt {w : World} {b : Nat} {x0 x1 x2 : Value} (h : Box3 w b x0 x1 x2) : b + 2 < w.heap.size := (Array.getElem?_eq_some_iff.1 h.r2).1
theorem Box3.below {w w' : World} {b : Nat} {x0 x1 x2 : Value} (h : Box3 w b x0 x1 x2) (hb : Below w.heap.size w w') : Box3 w' b x0 x1 x2 := by
  have hl := h.lt
  exact ⟨(hb.block b (by omega)).trans h.r0, (hb.block (b + 1) (by omega)).trans h.r1, (hb.block (b + 2) (by omega)).trans h.r2⟩
theorem Box3.ks {w w' : World} {b g : Nat} {x0 x1 x2 : Value} (h : Box3 w b x0 x1 x2) (hk : Ks g w w') (hg : b + 2 < g) : Box3 w' b x0 x1 x2 := by
  have hl := h.lt
  exact ⟨(hk.oth b (by omega) (by omega)).trans h.r0, (hk.oth (b + 1) (by omega) (by omega)).trans h.r1, (hk.oth (b + 2) (by omega) (by omega)).trans h.r2⟩
theorem Box3.facts {w : World} {b : Nat} {x0 x1 x2 : Value} (h : Box3 w b x0 x1 x2) :
    w.cell? ⟨b, 0, none⟩ = some x0 ∧ w.cell? ⟨b + 1, 0, none⟩ = some x1 ∧ w.cell? ⟨b + 2, 0, none⟩ = some x2 ∧ w.frozen? ⟨b, 0, none⟩ = false ∧ w.frozen? ⟨b + 1, 0, none⟩ = false ∧ w.frozen? ⟨b + 2, 0, none⟩ = false :=
  ⟨cell_heap h.r0 0, cell_heap h.r1 0, cell_heap h.r2 0, frozen_heap h.r0 0, frozen_heap h.r1 0, frozen_heap h.r2 0⟩
theorem Box3.fill {w : World} {b : Nat} {x0 x1 x2 : Value} (h : Box3 w b x0 x1 x2) (y0 y1 y2 : Value) : Box3 (((w.setCell ⟨b, 0, none⟩ y0).setCell ⟨b + 1, 0, none⟩ y1).setCell ⟨b + 2, 0, none⟩ y2) b y0 y1 y2 := by
  refine ⟨?_, ?_, ?_⟩
  · rw [Below.heap_setCell _ _ _ _ (by simp), Below.heap_setCell _ _ _ _ (by simp), rowSet h.r0]; simp
  · rw [Below.heap_setCell _ _ _ _ (by simp), rowSet (by rw [Below.heap_setCell _ _ _ _ (by simp)]; exact h.r1)]; simp
  · rw [rowSet (by rw [Below.heap_setCell _ _ _ _ (by simp), Below.heap_setCell _ _ _ _ (by simp)]; exact h.r2)]; simp
theorem below_fill {w w' : World} {b B : Nat} (h : Below B w w') (hB : B ≤ b) (y0 y1 y2 : Value) : Below B w (((w'.setCell ⟨b, 0, none⟩ y0).setCell ⟨b + 1, 0, none⟩ y1).setCell ⟨b + 2, 0, none⟩ y2) :=
  ((h.setCell (by exact hB) _).setCell (by show B ≤ b + 1; omega) _).setCell (by show B ≤ b + 2; omega) _

set_option maxRecDepth 100000 in
set_option maxHeartbeats 2000000 in
theorem catch_fault (b p : Nat) (x0 x1 x2 : Value) (older : List PanicEntry) (w : World) (hb : Box3 w b x0 x1 x2) :
    CallsD Tryz.prog 53 #[.pointer (some ⟨b, 0, none⟩), .pointer (some ⟨b + 1, 0, none⟩), .pointer (some ⟨b + 2, 0, none⟩)] (.panicking ({ v := .iface 95 (.agg #[.int .i64 (p : Nat)]), recovered := false } :: older)) w fun e u' w' =>
      e = .returned (.tuple #[]) ∧ u' = .panicking ({ v := .iface 95 (.agg #[.int .i64 (p : Nat)]), recovered := true } :: older) ∧ Box3 w' b (.slice none 0 0) (.int .i64 (p : Nat)) (.int .i64 3) ∧ Below b w w' := by
  have HB := Lib.hid hb
  have hl := hb.lt
  obtain ⟨h0, h1, h2, z0, z1, z2⟩ := hb.facts
  have hl0 : b < w.heap.size := by omega
  have hl1 : b + 1 < w.heap.size := by omega
  clear hb
  refine callsD_of_wpS Tryz.func53 rfl fun c₀ cs hu => ?_
  apply wpS_seq
  apply wpS_region
  simp [wpOpsS, go_sem, recoverD, hu, Tryz.ntmps53, Exit.thenS]
  simp [Array.replicate, List.replicate]
  have hta := assert_fault (p : Nat)
  refine wpS_of_wp ?_
  go_wp2_with fail
  go_region
  go_wp2_with fail
  simp [bodyPostS, results, Tryz.results53]
  have hf := HB.out.fill (.slice none 0 0) (.int .i64 (p : Nat)) (.int .i64 3)
  exact ⟨hf.below (((below1 _ _)).drew), ((below_fill (Below.refl b w) (Nat.le_refl _) _ _ _).alloc (by simp; omega) _).drew⟩

set_option maxRecDepth 100000 in
set_option maxHeartbeats 2000000 in
theorem catch_idle (b : Nat) (w : World) :
    CallsD Tryz.prog 53 #[.pointer (some ⟨b, 0, none⟩), .pointer (some ⟨b + 1, 0, none⟩), .pointer (some ⟨b + 2, 0, none⟩)] .returning w fun e u' w' =>
      e = .returned (.tuple #[]) ∧ u' = .returning ∧ Below w.heap.size w w' := by
  refine callsD_of_wpS Tryz.func53 rfl fun c₀ cs hu => ?_
  apply wpS_seq
  apply wpS_region
  simp [wpOpsS, go_sem, recoverD, hu, Tryz.ntmps53, Exit.thenS]
  simp [Array.replicate, List.replicate]
  have hta := assert_nil
  refine wpS_of_wp ?_
  go_wp2_with fail
  simp [bodyPostS, results, Tryz.results53]
  refine ⟨.returning, ?_, rfl, below1 _ _⟩
  cases c₀
  simp_all

/-- What Scan answers of characters: the words, or the place and the error. -/
noncomputable def scanW (cs : List Nat) : List Wd × Nat × Nat := match wdsA cs 0 [] with
  | (ws, none) => (ws, 0, 0)
  | (_, some p) => ([], p, 3)
/-- What Scan answers of any ints. -/
noncomputable def scanA (zs : List Int) : List Wd × Int × Nat := if idxZ (fun c => !scB c) zs < 0 then ((scanW (zs.map Int.toNat)).1, ((scanW (zs.map Int.toNat)).2.1 : Int), (scanW (zs.map Int.toNat)).2.2) else ([], idxZ (fun c => !scB c) zs, 1)
def ScanPost (zs : List Int) (w : World) (e : Ending) (w' : World) : Prop :=
  ∃ v ps, e = .returned (.tuple #[v, .int .i64 (scanA zs).2.1, .int .i64 ((scanA zs).2.2 : Nat)]) ∧ ps.map (·.1) = (scanA zs).1 ∧ TkSl w' w.heap.size v ps ∧ ps.length ≤ 2000000 ∧ Below w.heap.size w w'
theorem TkSl.nil (w : World) (B : Nat) : TkSl w B (.slice none 0 0) [] := ⟨OwnQ.nil _ _ _ _, fun p hp => by cases hp⟩
theorem idxZ_neg {p : Int → Bool} {zs : List Int} (h : idxZ p zs < 0) : ∀ z ∈ zs, p z = false := by
  unfold idxZ at h
  split at h
  · omega
  · rename_i hn
    have : zs.findIdx p = zs.length := by
      have := List.findIdx_le_length (xs := zs) (p := p)
      omega
    rw [List.findIdx_eq_length] at this
    exact this

theorem OwnQ.slice {w : World} {base : Nat} {e : TypeId} {size : Nat} {v : Value} {n : Nat} {xs : List Value} (h : OwnQ w base e size v n xs) : ∃ a c, v = .slice a n c := by
  rcases h.2 with ⟨rfl, h0⟩ | ⟨g, cap, cur, rfl, _⟩
  · subst h0; exact ⟨_, _, rfl⟩
  · exact ⟨_, _, rfl⟩
theorem OwnQ.mono {w : World} {base base' : Nat} {e : TypeId} {size : Nat} {v : Value} {n : Nat} {xs : List Value} (h : OwnQ w base e size v n xs) (hb : base' ≤ base) : OwnQ w base' e size v n xs := by
  refine ⟨h.1, ?_⟩
  rcases h.2 with hn | ⟨g, cap, cur, h1, h2, rest⟩
  · exact .inl hn
  · exact .inr ⟨g, cap, cur, h1, Nat.le_trans hb h2, rest⟩

theorem TkSl.mono {w : World} {B B' : Nat} {v : Value} {ps : List (Wd × Value)} (h : TkSl w B v ps) (hB : B' ≤ B) : TkSl w B' v ps := ⟨h.own.mono hB, h.limbs⟩
theorem TkSl.below {w w' : World} {B : Nat} {v : Value} {ps : List (Wd × Value)} (h : TkSl w B v ps) (hb : Below w.heap.size w w') : TkSl w' B v ps := ⟨h.own.below hb, fun p hp => (h.limbs p hp).below hb⟩
theorem TkSl.set {w : World} {B : Nat} {v : Value} {ps : List (Wd × Value)} (h : TkSl w B v ps) {c : Nat} {x : Value} {e : TypeId} (hr : w.heap[c]? = some (.cells #[x] e (0, 0))) (hx : NU x) (hc : c < B) (y : Value) : TkSl (w.setCell ⟨c, 0, none⟩ y) B v ps :=
  ⟨h.own.ks ((Ks.refl c w).set 0 y) hc, fun p hp => (h.limbs p hp).u32s (U32S.ks ((Ks.refl c w).set 0 y) (NoU.of_cells hr (fun u hu => by simp at hu; subst hu; exact hx)))⟩
theorem TkSl.fill {w : World} {B b : Nat} {v : Value} {ps : List (Wd × Value)} (h : TkSl w B v ps) {x0 x1 x2 : Value} (hb : Box3 w b x0 x1 x2) (n0 : NU x0) (n1 : NU x1) (n2 : NU x2) (hB : b + 2 < B) (y0 y1 y2 : Value) :
    TkSl (((w.setCell ⟨b, 0, none⟩ y0).setCell ⟨b + 1, 0, none⟩ y1).setCell ⟨b + 2, 0, none⟩ y2) B v ps := by
  refine ((h.set hb.r0 n0 (by omega) y0).set (x := x1) (e := 3) ?_ n1 (by omega) y1).set (x := x2) (e := 35) ?_ n2 (by omega) y2
  · rw [Below.heap_setCell _ _ _ _ (by simp)]; exact hb.r1
  · rw [Below.heap_setCell _ _ _ _ (by simp), Below.heap_setCell _ _ _ _ (by simp)]; exact hb.r2
theorem ScanPost.mk {zs : List Int} {w w' : World} {v : Value} {ps : List (Wd × Value)} {ws : List Wd} {p : Int} {e : Nat} (h : scanA zs = (ws, p, e)) (hp : ps.map (·.1) = ws) (ht : TkSl w' w.heap.size v ps) (hl : ps.length ≤ 2000000) (hb : Below w.heap.size w w') :
    ScanPost zs w (.returned (.tuple #[v, .int .i64 p, .int .i64 (e : Nat)])) w' := ⟨v, ps, by rw [h], by rw [h]; exact hp, ht, hl, hb⟩

set_option maxRecDepth 100000 in
set_option maxHeartbeats 4000000 in
theorem scan_any (sv : Value) (zs : List Int) (w : World) (hs : SlV w sv (intCells zs)) (hl : zs.length ≤ 2000000) (ht : Tabs2 w) (hwd : Words w) (hmk : Marks w) :
    Calls Tryz.prog 32 #[sv] w (ScanPost zs w) := by
  have hmf : ∀ (fn : Fn) (first cap : Array Value) (w : World), (Instr.makeFunc fn first cap).run Tryz.prog w = .ok (.func fn first cap) w := fun _ _ _ _ => rfl
  have HSV := Lib.hid hs
  have HT := Lib.hid ht; clear ht
  have HW := Lib.hid hwd; clear hwd
  have HM := Lib.hid hmk; clear hmk
  have hB : Box3 (((w.alloc (.cells #[.slice none 0 0] 57)).alloc (.cells #[.int .i64 0] 3)).alloc (.cells #[.int .i64 0] 35)) w.heap.size (.slice none 0 0) (.int .i64 0) (.int .i64 0) := by
    refine ⟨?_, ?_, ?_⟩
    · rw [Below.heap_alloc _ _ _ (by simp; omega), Below.heap_alloc _ _ _ (by simp)]; exact heap_alloc_new w _
    · rw [Below.heap_alloc _ _ _ (by simp)]
      have := heap_alloc_new (w.alloc (.cells #[.slice none 0 0] 57)) (.cells #[.int .i64 0] 3)
      simpa using this
    · have := heap_alloc_new ((w.alloc (.cells #[.slice none 0 0] 57)).alloc (.cells #[.int .i64 0] 3)) (.cells #[.int .i64 0] 35)
      simpa using this
  have hb3 := below3 w (.cells #[.slice none 0 0] 57) (.cells #[.int .i64 0] 3) (.cells #[.int .i64 0] 35)
  have hsz : (((w.alloc (.cells #[.slice none 0 0] 57)).alloc (.cells #[.int .i64 0] 3)).alloc (.cells #[.int .i64 0] 35)).heap.size = w.heap.size + 3 := by simp
  have HB := Lib.hid hB
  have HB3 := Lib.hid hb3
  have HSZ := Lib.hid hsz
  clear hB hb3 hsz
  obtain ⟨hm, ao, cap, rfl, hcap, hh⟩ := hs
  rw [intCells_len] at hm hcap
  rw [intCells_len] at HSV ⊢
  clear hm hcap hh
  go_enter_defers Tryz.func32, Tryz.ntmps32
  go_wp2_with fail
  generalize hw0 : ((w.alloc (.cells #[.slice none 0 0] 57)).alloc (.cells #[.int .i64 0] 3)).alloc (.cells #[.int .i64 0] 35) = w0 at *
  refine (index_foreign (fun c => !scB c) (fun c w => foreign_any c w) _ zs _ (HSV.out.below HB3.out)).mono ?_
  rintro e w1 ⟨rfl, rfl⟩
  obtain ⟨h0, h1, h2a, z0, z1, z2a⟩ := HB.out.facts
  have h2 : w1.cell? ⟨w.heap.size + 1 + 1, 0, none⟩ = some (.int .i64 0) := h2a
  have z2 : w1.frozen? ⟨w.heap.size + 1 + 1, 0, none⟩ = false := z2a
  clear h2a z2a
  rcases (by omega : idxZ (fun c => !scB c) zs < 0 ∨ 0 ≤ idxZ (fun c => !scB c) zs) with hneg | hpos
  · have hall := idxZ_neg hneg
    have HA := Lib.hid (show scanA zs = _ from by unfold scanA; rw [if_pos hneg])
    have hnn : ∀ z ∈ zs, 0 ≤ z ∧ ScQ z.toNat := fun z hz => by
      have := hall z hz
      simp at this
      unfold scB at this
      simp only [decide_eq_true_iff] at this
      unfold ScQ
      omega
    have hsl := nat_slv HSV.out (fun z hz => (hnn z hz).1)
    have HSL := Lib.hid hsl
    have hcsl : (zs.map Int.toNat).length = zs.length := by simp
    generalize hcs : zs.map Int.toNat = cs at *
    have hsc : ∀ c ∈ cs, ScQ c := fun c hc => by
      rw [← hcs] at hc
      obtain ⟨z, hz, rfl⟩ := List.mem_map.1 hc
      exact (hnn z hz).2
    have HSCQ := Lib.hid hsc
    clear hsl hall hnn hsc hcs h0 h1 h2 z0 z1 z2
    go_wp2_with fail
    have hbs := below1 w1 (.cells #[.slice ao zs.length cap, .int .i64 0, .int .i64 0] 98)
    have hsz := HSZ.out
    have hscn : Sc (w1.alloc (.cells #[.slice ao zs.length cap, .int .i64 0, .int .i64 0] 98)) w1.heap.size (.slice ao zs.length cap) cs 0 0 := by
      refine ⟨heap_alloc_new w1 _, (HSL.out.below HB3.out).below hbs, fun hne => ?_, by omega, by omega, HSCQ.out⟩
      obtain ⟨_, ao', cap', hv, _, hh⟩ := HSL.out
      simp only [Value.slice.injEq] at hv
      obtain ⟨rfl, _, rfl⟩ := hv
      rcases hh with ⟨h1, _⟩ | ⟨b, off, rfl, hlt, _⟩
      · exact absurd h1 hne
      · simp [Value.ownBlock]; omega
    have hgl : Gl w (w1.alloc (.cells #[.slice ao zs.length cap, .int .i64 0, .int .i64 0] 98)) w1.heap.size := ⟨HT.out, HW.out, HM.out, HB3.out.trans (hbs.mono (by omega)), by omega⟩
    have hg3 : w.heap.size + 2 < w1.heap.size := by omega
    have hg4 : w.heap.size ≤ w1.heap.size := by omega
    clear hsz
    refine (words_any w w1.heap.size _ cs 0 _ hscn hgl).mono ?_
    rintro e w2 ⟨hk2, ⟨v, ps, hwd, rfl, htk, hps⟩ | ⟨l, p, hwd, rfl⟩⟩
    · have HB2 := Lib.hid ((HB.out.below hbs).ks hk2 hg3)
      have HW2 : Hid (Below w.heap.size w w2) := Lib.hid ((HB3.out.trans (hbs.mono hg4)).trans (hk2.bel.mono hg4))
      have HTK := Lib.hid (htk.mono (B' := w1.heap.size) (by simp))
      have HSC := Lib.hid (show scanW cs = (ps.map (·.1), 0, 0) from by unfold scanW; rw [hwd])
      obtain ⟨av, cv, rfl⟩ := htk.own.slice
      obtain ⟨h0, h1, h2a, z0, z1, z2a⟩ := HB2.out.facts
      have h2 : w2.cell? ⟨w.heap.size + 1 + 1, 0, none⟩ = some (.int .i64 0) := h2a
      have z2 : w2.frozen? ⟨w.heap.size + 1 + 1, 0, none⟩ = false := z2a
      clear h2a z2a hbs hscn hgl hk2 hwd htk
      go_wp2_with fail
      have hfill := HB2.out.fill (.slice av ps.length cv) (.int .i64 0) (.int .i64 0)
      have hbf := below_fill HW2.out (Nat.le_refl _) (.slice av ps.length cv) (.int .i64 0) (.int .i64 0)
      have htf := HTK.out.fill HB2.out (by intro x; simp) (by intro x; simp) (by intro x; simp) hg3 (.slice av ps.length cv) (.int .i64 0) (.int .i64 0)
      clear h0 h1 h2 z0 z1 z2
      generalize World.setCell _ (⟨w.heap.size + 2, 0, none⟩ : Addr) (.int .i64 0) = W' at *
      refine leaves_cons (f := 53) (args := #[.pointer (some ⟨w.heap.size, 0, none⟩), .pointer (some ⟨w.heap.size + 1, 0, none⟩), .pointer (some ⟨w.heap.size + 2, 0, none⟩)]) (by simp) (by simp [go_sem]) ?_
      refine (catch_idle w.heap.size W').mono ?_
      rintro e u' w3 ⟨rfl, rfl, hb3⟩
      obtain ⟨h0, h1, h2, _, _, _⟩ := (hfill.below hb3).facts
      simp [Leaves, settle, results, Tryz.results32, go_sem, h0, h1, h2]
      refine ScanPost.mk (p := 0) (e := 0) (by rw [HA.out, HSC.out]; rfl) rfl ((htf.below hb3).mono hg4) hps (hbf.trans (hb3.mono hbf.size))
    · have HB2 := Lib.hid ((HB.out.below hbs).ks hk2 hg3)
      have HW2 : Hid (Below w.heap.size w w2) := Lib.hid ((HB3.out.trans (hbs.mono hg4)).trans (hk2.bel.mono hg4))
      have HSC := Lib.hid (show scanW cs = ([], p, 3) from by unfold scanW; rw [hwd])
      clear hbs hscn hgl hk2 hwd
      refine leaves_cons (f := 53) (args := #[.pointer (some ⟨w.heap.size, 0, none⟩), .pointer (some ⟨w.heap.size + 1, 0, none⟩), .pointer (some ⟨w.heap.size + 2, 0, none⟩)]) (by simp) (by simp [go_sem]) ?_
      refine (catch_fault w.heap.size p _ _ _ [] _ HB2.out).mono ?_
      rintro e u' w3 ⟨rfl, rfl, hb3, hbel⟩
      obtain ⟨h0, h1, h2, _, _, _⟩ := hb3.facts
      simp [Leaves, settle, results, Tryz.results32, go_sem, h0, h1, h2]
      exact ScanPost.mk (p := (p : Nat)) (e := 3) (ps := []) (by rw [HA.out, HSC.out]; rfl) rfl (TkSl.nil _ _) (by simp) (HW2.out.trans hbel)
  · have HA := Lib.hid (show scanA zs = _ from by unfold scanA; rw [if_neg (by omega)])
    go_wp2_with fail
    have hfill := HB.out.fill (.slice none 0 0) (.int .i64 (idxZ (fun c => !scB c) zs)) (.int .i64 1)
    have hbf := below_fill HB3.out (Nat.le_refl _) (.slice none 0 0) (.int .i64 (idxZ (fun c => !scB c) zs)) (.int .i64 1)
    clear h0 h1 h2 z0 z1 z2
    generalize World.setCell _ (⟨w.heap.size + 2, 0, none⟩ : Addr) (.int .i64 1) = W' at *
    obtain ⟨h0, h1, h2, _, _, _⟩ := hfill.facts
    simp [bodyPostD, Leaves, results, Tryz.results32, go_sem, h0, h1, h2]
    exact ScanPost.mk (e := 1) (ps := []) HA.out rfl (TkSl.nil _ _) (by simp) hbf
end Go.Proofs.YtpahfhjgcflifaaGreatDoor
