/- A store and a list that lie apart, and boxes beside them that stay; which stores are good. No walk here but Name of what is no symbol. -/
import Derived.Test.YtioidaojnbenbaaSmBuild
import Derived.Test.YtioidaojnbenbaaRsCnt
import Derived.Test.YtioidaojnbenbaaStNm
import Derived.Test.YtioidaojnbenbaaStCopied
import Derived.Test.YtioidaojnbenbaaRsName
import Derived.Test.YtioidaojnbenbaaStWrap
namespace Go.Proofs.Ytioidaojnbenbaa
open Go.RowKit

def kadd (κ : Nat → Option Obj) (n : Nat) (o : Obj) : Nat → Option Obj := fun b => if b = n then some o else κ b
theorem kadd_self {κ : Nat → Option Obj} {n : Nat} {o : Obj} : kadd κ n o n = some o := by simp [kadd]
theorem kadd_ne {κ : Nat → Option Obj} {n b : Nat} {o : Obj} (h : b ≠ n) : kadd κ n o b = κ b := by simp [kadd, h]
/-- A store and a list, made since w0, apart; and boxes that are none of theirs. -/
def TwoX (w0 w : World) (gs gm : Nat) (s t : St) (κ : Nat → Option Obj) : Prop := ∃ R Q, Two w0 w gs gm R Q s t ∧ ∀ b o, κ b = some o → w.heap[b]? = some o ∧ R b = 0 ∧ Q b = 0 ∧ w0.heap.size ≤ b
section
variable {w0 w w' : World} {gs gm : Nat} {s t : St} {κ : Nat → Option Obj}
theorem TwoX.below (h : TwoX w0 w gs gm s t κ) (hb : Below w.heap.size w w') : TwoX w0 w' gs gm s t κ := by
  obtain ⟨R, Q, h1, h2⟩ := h
  exact ⟨R, Q, h1.below hb, fun b o hk => ⟨(hb.block b (Array.getElem?_eq_some_iff.1 (h2 b o hk).1).1).trans (h2 b o hk).1, (h2 b o hk).2⟩⟩
theorem TwoX.drew (h : TwoX w0 w gs gm s t κ) : TwoX w0 w.drew gs gm s t κ := h.below (Below.refl _ _).drew
theorem TwoX.sub (h : TwoX w0 w gs gm s t κ) {κ' : Nat → Option Obj} (hs : ∀ b o, κ' b = some o → κ b = some o) : TwoX w0 w gs gm s t κ' := by
  obtain ⟨R, Q, h1, h2⟩ := h
  exact ⟨R, Q, h1, fun b o hk => h2 b o (hs b o hk)⟩
theorem TwoX.bel (h : TwoX w0 w gs gm s t κ) : Below w0.heap.size w0 w := by
  obtain ⟨R, Q, h1, _⟩ := h; exact h1.st.bel
theorem TwoX.at (h : TwoX w0 w gs gm s t κ) {b : Nat} {o : Obj} (hk : κ b = some o) : w.heap[b]? = some o := by
  obtain ⟨R, Q, _, h2⟩ := h; exact (h2 b o hk).1
theorem TwoX.new (h : TwoX w0 w gs gm s t κ) {b : Nat} {o : Obj} (hk : κ b = some o) (hb : w.heap.size ≤ b) : False := by
  have := (Array.getElem?_eq_some_iff.1 (h.at hk)).1; omega
theorem TwoX.alloc (h : TwoX w0 w gs gm s t κ) (o : Obj) : TwoX w0 (w.alloc o) gs gm s t (kadd κ w.heap.size o) := by
  have hb := below1 w o
  have h3 := h.below hb
  obtain ⟨R, Q, h1, h2⟩ := h
  refine ⟨R, Q, h1.below hb, fun b o' hk => ?_⟩
  by_cases e : b = w.heap.size
  · subst e
    rw [kadd_self] at hk
    obtain rfl := Option.some.inj hk
    exact ⟨heap_alloc_new w _, h1.st.new_zero (Nat.le_refl _), Classical.byContradiction fun hn => by have := h1.rs.lt _ hn; omega, h1.st.bel.size⟩
  · rw [kadd_ne e] at hk
    exact ⟨(hb.block b (Array.getElem?_eq_some_iff.1 (h2 b o' hk).1).1).trans (h2 b o' hk).1, (h2 b o' hk).2⟩
theorem TwoX.put (h : TwoX w0 w gs gm s t κ) {b : Nat} {cs : Array Value} {e : TypeId} (hk : κ b = some (.cells cs e (0, 0))) (i : Nat) (u : Value) : TwoX w0 (w.setCell ⟨b, i, none⟩ u) gs gm s t (kadd κ b (.cells (cs.setIfInBounds i u) e (0, 0))) := by
  obtain ⟨R, Q, h1, h2⟩ := h
  obtain ⟨k1, k2, k3, k4⟩ := h2 b _ hk
  have hke : Keeps (fun b' => b' ≠ b) w (w.setCell ⟨b, i, none⟩ u) := (Keeps.refl _ _).set (fun h => h rfl) _
  refine ⟨R, Q, ⟨⟨h1.st.st.keep (hke.mono fun b' _ hr e => hr (e ▸ k2)), h1.st.bel.setCell k4 u, h1.st.lo⟩, h1.rs.keep (hke.mono fun b' _ hr e => hr (e ▸ k3)), h1.dj, h1.lo⟩, fun b' o hb' => ?_⟩
  by_cases e : b' = b
  · subst e
    rw [kadd_self] at hb'
    obtain rfl := Option.some.inj hb'
    exact ⟨rowSet k1 i u, k2, k3, k4⟩
  · rw [kadd_ne e] at hb'
    exact ⟨(Below.heap_setCell _ _ _ _ (by simpa using e)).trans (h2 b' o hb').1, (h2 b' o hb').2⟩
/-- A call on the store. -/
theorem TwoX.sstep (h : TwoX w0 w gs gm s t κ) : ∃ R, StW w gs R s ∧ (∀ b, R b ≠ 0 → w0.heap.size ≤ b) ∧ (∀ b o, κ b = some o → R b = 0) ∧ ∀ s' w', StP w gs R s' w' → TwoX w0 w' gs gm s' t κ := by
  obtain ⟨R, Q, h1, h2⟩ := h
  refine ⟨R, h1.st.st, h1.st.lo, fun b o hk => (h2 b o hk).2.1, fun s' w' hp => ?_⟩
  obtain ⟨R', k1, k2, k3⟩ := h1.st.step hp
  have hlt : ∀ b o, κ b = some o → b < w.heap.size := fun b o hk => (Array.getElem?_eq_some_iff.1 (h2 b o hk).1).1
  exact ⟨R', Q, ⟨k1, h1.rs.keep (k2.keeps.mono fun b _ hq => h1.dj b hq), fun b hq => (k3 b (h1.rs.lt b hq)).2 (h1.dj b hq), h1.lo⟩, fun b o hk => ⟨(k2.blk b (hlt b o hk) (h2 b o hk).2.1).trans (h2 b o hk).1, (k3 b (hlt b o hk)).2 (h2 b o hk).2.1, (h2 b o hk).2.2⟩⟩
/-- A call on the list. -/
theorem TwoX.rstep (h : TwoX w0 w gs gm s t κ) : ∃ Q, RsW w gm Q t ∧ (∀ b, Q b ≠ 0 → w0.heap.size ≤ b) ∧ (∀ b o, κ b = some o → Q b = 0) ∧ ∀ t' w', RsP w gm Q t' w' → TwoX w0 w' gs gm s t' κ := by
  obtain ⟨R, Q, h1, h2⟩ := h
  refine ⟨Q, h1.rs, h1.lo, fun b o hk => (h2 b o hk).2.2.1, fun t' w' hp => ?_⟩
  obtain ⟨Q', k1, k2, k3⟩ := hp
  have hlt : ∀ b o, κ b = some o → b < w.heap.size := fun b o hk => (Array.getElem?_eq_some_iff.1 (h2 b o hk).1).1
  refine ⟨R, Q', ⟨⟨h1.st.st.keep (k2.keeps.mono fun b _ hr => Classical.byContradiction fun hq => hr (h1.dj b hq)), h1.st.bel.trans (k2.below h1.st.bel.size h1.lo), h1.st.lo⟩, k1, fun b hq => ?_, fun b hq => ?_⟩, fun b o hk => ⟨(k2.blk b (hlt b o hk) (h2 b o hk).2.2.1).trans (h2 b o hk).1, (h2 b o hk).2.1, (k3 b (hlt b o hk)).2 (h2 b o hk).2.2.1, (h2 b o hk).2.2.2⟩⟩
  · rcases Nat.lt_or_ge b w.heap.size with hl | hl
    · exact h1.dj b fun h0 => hq ((k3 b hl).2 h0)
    · exact h1.st.new_zero hl
  · rcases Nat.lt_or_ge b w.heap.size with hl | hl
    · exact h1.lo b fun h0 => hq ((k3 b hl).2 h0)
    · exact Nat.le_trans h1.st.bel.size hl
theorem Two.x {R Q : Nat → Nat} (h : Two w0 w gs gm R Q s t) : TwoX w0 w gs gm s t (fun _ => none) := ⟨R, Q, h, fun b o hk => by cases hk⟩
end
/-- A row that lies in one block stays with it. -/
theorem RowV.boxed {w : World} {v : Value} {n size : Nat} {us : List Value} (h : RowV w v n size us) : (n = 0 ∧ ∀ W, RowV W v n size us) ∨ ∃ b o, v.ownBlock = some b ∧ w.heap[b]? = some o ∧ ∀ W : World, W.heap[b]? = some o → RowV W v n size us := by
  obtain ⟨h1, h2, ao, cap, rfl, h4, h5⟩ := h
  rcases h5 with h5 | ⟨b, off, rfl, h6, h7⟩
  · exact .inl ⟨h5.1, fun W => ⟨h1, h2, ao, cap, rfl, h4, .inl h5⟩⟩
  · refine .inr ⟨b, w.heap[b], rfl, Array.getElem?_eq_getElem h6, fun W hW => ⟨h1, h2, _, cap, rfl, h4, .inr ⟨b, off, rfl, (Array.getElem?_eq_some_iff.1 hW).1, fun j u hu => ?_⟩⟩⟩
    have e : W.heap[b]? = w.heap[b]? := hW.trans (Array.getElem?_eq_getElem h6).symm
    exact (World.cell?_of_block (a := ⟨b, off + j, none⟩) e).trans (h7 j u hu)

/-- A piece with a text alone. -/
def PxT (p : Px) : Prop := (∃ t, p = ⟨4, t, false, [], 0, [], []⟩) ∧ p.t.size ≤ 140737488355328
/-- What acts make of a store. -/
structure Gd (s : St) (n : Nat) : Prop where
  kd : s.Kd
  rk : ∀ o ∈ s.os, RkOk o
  px : ∀ o ∈ s.os, ∀ p, o.x = some p → PxT p
  nm : s.ns.length ≤ n
  nz : ∀ t ∈ s.ns, t.size ≤ 64
theorem Gd.more {s : St} {n m : Nat} (h : Gd s n) (hm : n ≤ m) : Gd s m := ⟨h.kd, h.rk, h.px, Nat.le_trans h.nm hm, h.nz⟩
theorem Gd.new (L n : Nat) : Gd (St.new L) n := ⟨fun o ho => (by cases ho), fun o ho => (by cases ho), fun o ho => (by cases ho), Nat.zero_le _, fun t ht => (by cases ht)⟩
theorem Gd.make {s : St} {n : Nat} (h : Gd s n) (k : Int) (l : List (Int × Int)) : Gd (s.make k l).2 (n + 1) := by
  unfold St.make
  split
  · exact h.more (by omega)
  · split
    · exact h.more (by omega)
    · split
      · exact h.more (by omega)
      · rename_i h1 _ _
        have hk : 1 ≤ k ∧ k ≤ 9 := by
          unfold mayA at h1
          split at h1
          · omega
          · split at h1
            · omega
            · simpa using h1
        refine ⟨fun o ho => ?_, fun o ho => ?_, fun o ho p hp => ?_, Nat.le_trans h.nm (by omega), h.nz⟩
        · rcases List.mem_append.1 ho with ho | ho
          · exact h.kd o ho
          · obtain rfl := List.mem_singleton.1 ho; exact hk.1
        · rcases List.mem_append.1 ho with ho | ho
          · exact h.rk o ho
          · obtain rfl := List.mem_singleton.1 ho; exact .inl ⟨by show k ≠ 10; omega, rfl, rfl⟩
        · rcases List.mem_append.1 ho with ho | ho
          · exact h.px o ho p hp
          · obtain rfl := List.mem_singleton.1 ho; cases hp
theorem Gd.put {s : St} {n : Nat} (h : Gd s n) (i j : Nat) (x : Int × Int) : Gd (s.put i j x) (n + 1) := by
  refine ⟨fun o ho => ?_, fun o ho => ?_, fun o ho p hp => ?_, Nat.le_trans h.nm (by omega), h.nz⟩
  · obtain ⟨o', ho', rfl | rfl⟩ := put_mem o ho
    · exact h.kd o ho'
    · exact h.kd o' ho'
  · obtain ⟨o', ho', rfl | rfl⟩ := put_mem o ho
    · exact h.rk o ho'
    · have := h.rk o' ho'
      unfold RkOk at this ⊢
      simpa [Ob.put] using this
  · obtain ⟨o', ho', rfl | rfl⟩ := put_mem o ho
    · exact h.px o ho' p hp
    · exact h.px o' ho' p hp
theorem Gd.setA {s : St} {n : Nat} (h : Gd s n) (v : Int × Int) (i : Int) (x : Int × Int) : Gd (s.setA v i x).2 (n + 1) := by
  unfold St.setA
  split
  · exact h.more (by omega)
  · split
    · exact h.more (by omega)
    · exact h.put _ _ _
theorem Gd.sym {s s' : St} {n : Nat} {t : ByteArray} {r : (Int × Int) × Int} (h : Gd s n) (hs : SymR s t r s') : Gd s' (n + 1) := by
  rcases hs with ⟨_, _, rfl⟩ | ⟨hz, _, _, _, _, rfl | rfl⟩
  · exact h.more (by omega)
  · exact h.more (by omega)
  · refine ⟨h.kd, h.rk, h.px, ?_, fun u hu => ?_⟩
    · show (s.ns ++ [t]).length ≤ _
      have := h.nm
      simp; omega
    · rcases List.mem_append.1 (show u ∈ s.ns ++ [t] from hu) with hu | hu
      · exact h.nz u hu
      · obtain rfl := List.mem_singleton.1 hu; exact hz.2
theorem Gd.wrap {s : St} {n : Nat} (h : Gd s n) {p : Px} (hp : PxT p) : Gd (s.wrap p).2 (n + 1) := by
  unfold St.wrap
  split
  · exact h.more (by omega)
  · have hw : pxW p = 2 := by obtain ⟨t, rfl⟩ := hp.1; rfl
    refine ⟨fun o ho => ?_, fun o ho => ?_, fun o ho q hq => ?_, Nat.le_trans h.nm (by omega), h.nz⟩
    · rcases List.mem_append.1 ho with ho | ho
      · exact h.kd o ho
      · obtain rfl := List.mem_singleton.1 ho; show (1 : Int) ≤ 10; omega
    · rcases List.mem_append.1 ho with ho | ho
      · exact h.rk o ho
      · obtain rfl := List.mem_singleton.1 ho; exact .inr ⟨rfl, ⟨p, rfl⟩, rfl, hw⟩
    · rcases List.mem_append.1 ho with ho | ho
      · exact h.px o ho q hq
      · obtain rfl := List.mem_singleton.1 ho
        obtain rfl : p = q := Option.some.inj hq
        exact hp
theorem Gd.left {s : St} {n : Nat} (h : Gd s n) (K : Nat → Bool) : Gd (s.left K) (n + 1) := by
  have hm : ∀ o ∈ (s.left K).os, ∃ o' ∈ s.os, o = o'.mv K := fun o ho => by
    obtain ⟨i, hi, _, _, e⟩ := kpt_mem ho
    exact ⟨_, List.getElem_mem hi, e⟩
  refine ⟨fun o ho => ?_, fun o ho => ?_, fun o ho p hp => ?_, Nat.le_trans h.nm (by omega), h.nz⟩
  · obtain ⟨o', ho', rfl⟩ := hm o ho
    exact h.kd o' ho'
  · obtain ⟨o', ho', rfl⟩ := hm o ho
    have := h.rk o' ho'
    unfold RkOk at this ⊢
    simpa [Ob.mv] using this
  · obtain ⟨o', ho', rfl⟩ := hm o ho
    exact h.px o' ho' p hp
/-- A store's name of any value. -/
theorem Gd.nameAt {s : St} {n : Nat} (h : Gd s n) {j : Nat} (hj : j < s.ns.length) : (s.ns[j]'hj).size ≤ 64 := h.nz _ (List.getElem_mem hj)

set_option maxRecDepth 100000 in
/-- What is no symbol here has no name. -/
theorem stname_no (g : Nat) (R : Nat → Nat) (s : St) (v : Int × Int) (w : World) (h : StW w g R s) (hv : ¬ (v.1 = 6 ∧ sdV s.os.length s.ns.length v = true)) :
    Calls Try.prog 18 #[.pointer (some ⟨g, 0, none⟩), .agg #[.int .i64 v.1, .int .i64 v.2]] w fun e w' => e = .returned (.tuple #[.string ⟨#[]⟩, .int .i64 10]) ∧ Below w.heap.size w w' := by
  obtain ⟨t, n⟩ := v
  simp only at hv ⊢
  have HS := Lib.hid h
  have HB1 := Lib.hid (below1 w (.cells #[.int .i64 t, .int .i64 n] 35))
  obtain ⟨p0, p1, z0, z1⟩ := row2 (box1 w #[.int .i64 t, .int .i64 n] 35)
  clear h
  by_cases h6 : t = 6
  · subst h6
    have hq : sdV s.os.length s.ns.length (6, n) = false := by
      cases hb : sdV s.os.length s.ns.length (6, n) with
      | false => rfl
      | true => exact absurd ⟨rfl, hb⟩ hv
    clear hv
    go_enter Try.func18, Try.ntmps18
    go_wp2_with fail
    refine (stsound_any g R s (6, n) _ (HS.out.below HB1.out)).mono ?_
    rintro e w1 ⟨rfl, hb1⟩
    rw [hq]
    have HB2 := Lib.hid (HB1.out.trans (hb1.mono (by simp)))
    clear hb1 hq p0 p1 z0 z1
    go_wp2_with fail
    refine bodyPost_ret (v := .tuple #[.string ⟨#[]⟩, .int .i64 10]) (by simp [results, Try.results18, go_sem]) rfl ⟨rfl, HB2.out⟩
  · have h6b : (t == 6) = false := by rw [beq_eq_false_iff_ne]; exact h6
    have h6c : (t != 6) = true := by rw [bne_iff_ne]; exact h6
    clear hv h6
    go_enter Try.func18, Try.ntmps18
    go_wp2_with fail
    refine bodyPost_ret (v := .tuple #[.string ⟨#[]⟩, .int .i64 10]) (by simp [results, Try.results18, go_sem]) rfl ⟨rfl, HB1.out⟩
theorem stname_any (g : Nat) (R : Nat → Nat) (s : St) (v : Int × Int) (w : World) (h : StW w g R s) (hz : ∀ t ∈ s.ns, t.size ≤ 64) :
    Calls Try.prog 18 #[.pointer (some ⟨g, 0, none⟩), .agg #[.int .i64 v.1, .int .i64 v.2]] w fun e w' => e = .returned (.tuple #[.string (s.nameA v).1, .int .i64 (s.nameA v).2]) ∧ Below w.heap.size w w' := by
  by_cases hv : v.1 = 6 ∧ sdV s.os.length s.ns.length v = true
  · obtain ⟨t, n⟩ := v
    obtain ⟨h6, hs⟩ := hv
    simp only at h6
    subst h6
    rw [sdV_sym rfl] at hs
    simp only [decide_eq_true_iff] at hs
    obtain ⟨j, rfl⟩ := Int.eq_ofNat_of_zero_le hs.1
    have hj : j < s.ns.length := by omega
    rw [nameA_at hj]
    exact stname_ok g R s j w h hj (by have := hz _ (List.getElem_mem hj); omega)
  · rw [nameA_no hv]
    exact stname_no g R s v w h hv
end Go.Proofs.Ytioidaojnbenbaa
