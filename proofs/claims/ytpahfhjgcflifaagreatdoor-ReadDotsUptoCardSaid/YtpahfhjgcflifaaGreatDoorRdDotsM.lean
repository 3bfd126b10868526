/- What is read of a list with a dot ahead of another one, or of one with a dot. No walk here. -/
import Derived.Test.YtpahfhjgcflifaaGreatDoorTxInv
namespace Go.Proofs.YtpahfhjgcflifaaGreatDoor
open Go.RowKit

/-- Texts one behind the other, a blank behind each: characters, and bytes. -/
def jnX (l : List Dm) : List Nat := l.flatMap fun d => d.tx ++ [32]
def jnB (l : List Dm) : List Nat := l.flatMap fun d => d.tb ++ [32]
theorem jnB_nil : jnB [] = [] := rfl
theorem jnB_snoc (l : List Dm) (d : Dm) : jnB (l ++ [d]) = jnB l ++ (d.tb ++ [32]) := by unfold jnB; simp
/-- A datum that may be written at a level. -/
structure Rdb (f : Nat) (d : Dm) : Prop where
  ok : okD f d = true
  pl : plainA d = true
  by' : DBy d
theorem Rdb.mono {f g : Nat} {d : Dm} (h : Rdb f d) (hf : f ≤ g) : Rdb g d := ⟨okD_mono f g d hf h.ok, h.pl, h.by'⟩
theorem jn_enc {f : Nat} : ∀ {l : List Dm}, (∀ d ∈ l, Rdb f d) → (∀ c ∈ jnX l, scN c) ∧ encL (jnX l) = jnB l
  | [], _ => ⟨fun c hc => (by cases hc), rfl⟩
  | d :: l, h => by
    obtain ⟨h1, h2⟩ := jn_enc (l := l) fun x hx => h x (by simp [hx])
    have hd := h d (by simp)
    obtain ⟨d1, d2, _⟩ := tx_enc _ d (Nat.le_refl _) f hd.ok hd.pl hd.by'
    have e1 : jnX (d :: l) = d.tx ++ (32 :: jnX l) := by unfold jnX; simp
    have e2 : jnB (d :: l) = d.tb ++ (32 :: jnB l) := by unfold jnB; simp
    rw [e1, e2]
    refine ⟨fun c hc => ?_, ?_⟩
    · rcases List.mem_append.1 hc with hc | hc
      · exact d1 c hc
      rcases List.mem_cons.1 hc with rfl | hc
      · unfold scN; omega
      · exact h1 c hc
    · rw [encL_app, d2]
      show _ ++ (encN 32 ++ encL (jnX l)) = _
      rw [h2]
      rfl
theorem fullA_no {w : Wd} {m : List Dm} : fullA ⟨w, m, 0⟩ = false := by simp [fullA]
/-- They are read one by one. -/
theorem seq_reads {f : Nat} : ∀ {xs : List Dm}, (∀ d ∈ xs, Rdb f d) → ∀ {cs : List Nat} {p : Nat}, Lies (jnX xs) cs p → ∃ ws, Scs cs p ws (p + (jnX xs).length) ∧ ∃ xs' : List Dm, xs'.map Dm.strip = xs.map Dm.strip ∧
    ∀ (depth c : Nat) (w0 : Wd) (m : List Dm) (ps : List Pt) (more : List Wd), w0.kind = 1 → deepA (⟨w0, [], 0⟩ :: ps) + f = depth → c + sumA xs ≤ 8192 →
      takesA depth c (⟨w0, m, 0⟩ :: ps) (ws ++ more) = takesA depth (c + sumA xs) (⟨w0, m ++ xs', 0⟩ :: ps) more
  | [], _, cs, p, _ => ⟨[], Scs.refl _ _, [], rfl, fun depth c w0 m ps more _ _ _ => by rw [List.append_nil]; rfl⟩
  | d :: xs, h, cs, p, hl => by
    have e1 : jnX (d :: xs) = d.tx ++ (32 :: jnX xs) := by unfold jnX; simp
    have hd := h d (by simp)
    rw [e1] at hl ⊢
    obtain ⟨h32, hlt⟩ := lies_next (u := d.tx) (c := 32) (r := jnX xs) hl
    obtain ⟨wd, s1, d', hd', hgo⟩ := (writes_dm hd.ok hd.pl hd.by').reads cs p hl.left (.inr ⟨hlt, by rw [h32]; decide⟩)
    have s2 := Scs.blank hlt h32
    have hl2 : Lies (32 :: jnX xs) cs (p + d.tx.length) := hl.tail
    have hl3 : Lies (jnX xs) cs (p + d.tx.length + 1) := Lies.tail (u := [32]) hl2
    obtain ⟨ws, s3, xs', hst, hseq⟩ := seq_reads (xs := xs) (fun x hx => h x (by simp [hx])) hl3
    have hlen : p + (d.tx ++ 32 :: jnX xs).length = p + d.tx.length + 1 + (jnX xs).length := by simp; omega
    rw [hlen]
    have s := s1.trans (s2.trans s3)
    rw [List.nil_append] at s
    refine ⟨_, s, d' :: xs', by simp [hd', hst], fun depth c w0 m ps more hw hdp hc => ?_⟩
    have hsum : sumA (d :: xs) = d.sz + sumA xs := by simp [sumA]
    rw [hsum] at hc ⊢
    have hdp2 : deepA (⟨w0, m, 0⟩ :: ps) + f = depth := by rw [deepA_set (q := ⟨w0, [], 0⟩) (q' := ⟨w0, m, 0⟩) rfl]; exact hdp
    have a1 := (hgo depth c f ⟨w0, m, 0⟩ ps (ws ++ more) fullA_no hdp2 (by omega)).1 ⟨hd.ok, by omega⟩
    rw [addA_put' (p := ⟨w0, m, 0⟩) (by show w0.kind ≠ 6; omega) (by show w0.kind ≠ 5; omega)] at a1
    have a2 := hseq depth (c + d.sz) w0 (m ++ [d']) ps more hw hdp (by omega)
    rw [List.append_assoc, a1, a2, Nat.add_assoc]
    simp
/-- What lists begin with, in a part. -/
theorem take_open {depth c i : Nat} {q : Pt} {ps : List Pt} (hq : fullA q = false) (hd : deepA (q :: ps) + 1 ≤ depth) (hc : c + 1 ≤ 8192) : takeA depth c (q :: ps) (markW 0 i) = .ok (c + 1, ⟨markW 0 i, [], 0⟩ :: q :: ps) := by
  have h2 : ¬ (markW 0 i).kind = 2 := by show ¬ (1 : Nat) = 2; decide
  have h4 : ¬ (markW 0 i).kind = 4 := by show ¬ (1 : Nat) = 4; decide
  have h5 : ¬ (markW 0 i).kind = 5 := by show ¬ (1 : Nat) = 5; decide
  have h7 : ¬ (markW 0 i).kind = 7 := by show ¬ (1 : Nat) = 7; decide
  have hs : szW (markW 0 i) = 1 := rfl
  unfold takeA
  simp only
  rw [if_neg h2, if_neg h4, if_neg h5, if_neg (by rw [hq]; decide), hs, if_neg (by omega), if_neg (by omega), if_neg h7]
theorem take_dot {depth c i : Nat} {w0 : Wd} {m : List Dm} {ps : List Pt} (hw : w0.kind = 1) (hm : 0 < m.length) : takeA depth c (⟨w0, m, 0⟩ :: ps) (dotW i) = .ok (c, ⟨w0, m, m.length⟩ :: ps) := by
  have h2 : ¬ (dotW i).kind = 2 := by show ¬ (4 : Nat) = 2; decide
  have h4 : (dotW i).kind = 4 := rfl
  unfold takeA
  simp only
  rw [if_neg h2, if_pos h4, if_neg (by rintro (h | h | h); exact h hw; omega; omega)]
theorem take_shut {depth c i : Nat} {p : Pt} {ps : List Pt} (hw : p.w.kind = 1) (hl : lacksA p = false) : takeA depth c (p :: ps) (markW 1 i) = .ok (c, addA ps (datA p)) := by
  have h2 : (markW 1 i).kind = 2 := rfl
  unfold takeA
  simp only
  rw [if_pos h2, if_neg (by rintro (h | h); exact h.1 hw; rw [hl] at h; cases h)]
/-- A list whose dot is ahead of a list. -/
theorem datB_join {w0 : Wd} {m : List Dm} {x : Dm} (hw : w0.kind = 1) (hm : 0 < m.length) (hx : x.k = 1 ∨ x.k = 2) : datA ⟨w0, m ++ [x], m.length⟩ = .mk x.k [] false [] (m ++ x.l) (w0.pl : Nat) := by
  unfold datA
  simp only
  rw [if_neg (by omega), if_pos hm]
  have e : (m ++ [x])[m.length]? = some x := by simp
  rw [e]
  show joinA ((m ++ [x]).take m.length) x _ = _
  unfold joinA
  rw [if_pos hx]
  simp
theorem datB_dot {w0 : Wd} {m : List Dm} {x : Dm} (hw : w0.kind = 1) (hm : 0 < m.length) (hx : ¬ (x.k = 1 ∨ x.k = 2)) : datA ⟨w0, m ++ [x], m.length⟩ = .mk 2 [] false [] (m ++ [x]) (w0.pl : Nat) := by
  unfold datA
  simp only
  rw [if_neg (by omega), if_pos hm]
  have e : (m ++ [x])[m.length]? = some x := by simp
  rw [e]
  show joinA ((m ++ [x]).take m.length) x _ = _
  unfold joinA
  rw [if_neg hx]
  simp
theorem datB_list {w0 : Wd} {m : List Dm} (hw : w0.kind = 1) : datA ⟨w0, m, 0⟩ = .mk 1 [] false [] m (w0.pl : Nat) := by
  unfold datA
  simp only
  rw [if_neg (by omega), if_neg (by omega)]
theorem lacksA_more {w0 : Wd} {m : List Dm} {x : Dm} : lacksA ⟨w0, m ++ [x], m.length⟩ = false := by simp [lacksA]
theorem lacksA_zero {w0 : Wd} {m : List Dm} : lacksA ⟨w0, m, 0⟩ = false := by simp [lacksA]
/-- All of a text's words, and what they are. -/
theorem read_one {cs : List Nat} {ws : List Wd} {D : Dm} (hs : Scs cs 0 ws cs.length) (hsc : ∀ c ∈ cs, scN c) (hl : (encL cs).length ≤ 65536) (ht : takesA 64 0 [zP] ws = .ok [⟨zW, [D], 0⟩]) : readA (encL cs) 64 = ([D], 0, 0) := by
  have hd : decA (encL cs) = (cs, 0, 0) := decA_ok hl (chars_enc cs hsc)
  have hq := scanW_of hs
  unfold readA
  rw [if_neg (by omega), hd]
  simp only [ne_eq, not_true_eq_false, if_false]
  rw [hq]
  have e : wordsA (64 : Int).toNat cs.length ws = ([D], 0, 0) := by
    unfold wordsA
    rw [show (64 : Int).toNat = 64 from rfl, ht]
  have e2 : wordsA 64 cs.length ws = ([D], 0, 0) := e
  simp [e2]
def zzD : Dm := .mk 4 [122, 122] false [] [] 0
theorem zz_ok : Rdb 1 zzD ∧ zzD.tx = [122, 122] ∧ zzD.tb = [122, 122] := by
  have h1 : chars [122, 122] 0 = ([122, 122], none) := chars_enc [122, 122] (by intro c hc; obtain rfl : c = 122 := (by simpa using hc); decide)
  have y1 : symA [122, 122] = true := symA_name (by decide) (by decide) (by decide) (by decide)
  refine ⟨⟨okD_sym (symbA_of (by_of (by decide)) y1), plain_leaf (by decide) (by decide), .mk (by_of (by decide)) fun i h => by simp at h⟩, ?_, ?_⟩
  · unfold Dm.tx zzD
    rw [tg_leaf (by omega)]
    show (chA [122, 122]).1 = _
    rw [chA_ok h1]
  · unfold Dm.tb zzD
    rw [tg_leaf (by omega)]
    rfl
/-- The texts. -/
def dotT (a b r : List Nat) : List Nat := 40 :: (a ++ 46 :: 32 :: 40 :: (b ++ r))
theorem dotT_enc {f : Nat} {a b : List Dm} {r : List Nat} (ha : ∀ d ∈ a, Rdb f d) (hb : ∀ d ∈ b, Rdb f d) (hr : ∀ c ∈ r, c < 128) : (∀ c ∈ dotT (jnX a) (jnX b) r, scN c) ∧ encL (dotT (jnX a) (jnX b) r) = dotT (jnB a) (jnB b) r := by
  obtain ⟨a1, a2⟩ := jn_enc ha
  obtain ⟨b1, b2⟩ := jn_enc hb
  refine ⟨fun c hc => ?_, ?_⟩
  · unfold dotT at hc
    rcases List.mem_cons.1 hc with rfl | hc
    · unfold scN; omega
    rcases List.mem_append.1 hc with hc | hc
    · exact a1 c hc
    rcases List.mem_cons.1 hc with rfl | hc
    · unfold scN; omega
    rcases List.mem_cons.1 hc with rfl | hc
    · unfold scN; omega
    rcases List.mem_cons.1 hc with rfl | hc
    · unfold scN; omega
    rcases List.mem_append.1 hc with hc | hc
    · exact b1 c hc
    · have := hr c hc; unfold scN; omega
  · unfold dotT
    show encN 40 ++ encL (jnX a ++ 46 :: 32 :: 40 :: (jnX b ++ r)) = _
    rw [encL_app, a2]
    show encN 40 ++ (jnB a ++ (encN 46 ++ (encN 32 ++ (encN 40 ++ encL (jnX b ++ r))))) = _
    rw [encL_app, b2, encL_low hr]
    rfl
theorem dots_read {a b : List Dm} (ha : ∀ d ∈ a, Rdb 62 d) (hb : ∀ d ∈ b, Rdb 62 d) (ha0 : 0 < a.length) (hb0 : 0 < b.length) (hsz : sumA a + sumA b ≤ 8189) (hl : (jnB a).length + (jnB b).length ≤ 40000) :
    (∃ D : Dm, D.strip = (Dm.mk 1 [] false [] (a ++ b) 0).strip ∧ readA (dotT (jnB a) (jnB b) [41, 41]) 64 = ([D], 0, 0)) ∧
    (∃ D : Dm, D.strip = (Dm.mk 2 [] false [] (a ++ b ++ [zzD]) 0).strip ∧ readA (dotT (jnB a) (jnB b) [46, 32, 122, 122, 41, 41]) 64 = ([D], 0, 0)) := by
  have core : ∀ (r : List Nat), ∃ wa wb : List Wd, ∃ a' b' : List Dm, a'.map Dm.strip = a.map Dm.strip ∧ b'.map Dm.strip = b.map Dm.strip ∧
      Scs (dotT (jnX a) (jnX b) r) 0 ([markW 0 0] ++ (wa ++ ([dotW (1 + (jnX a).length)] ++ ([markW 0 (1 + (jnX a).length + 2)] ++ wb)))) (1 + (jnX a).length + 2 + 1 + (jnX b).length) ∧ Lies r (dotT (jnX a) (jnX b) r) (1 + (jnX a).length + 2 + 1 + (jnX b).length) ∧
      ∀ more, takesA 64 0 [zP] ([markW 0 0] ++ (wa ++ ([dotW (1 + (jnX a).length)] ++ ([markW 0 (1 + (jnX a).length + 2)] ++ wb))) ++ more) = takesA 64 (2 + sumA a + sumA b) (⟨markW 0 (1 + (jnX a).length + 2), b', 0⟩ :: ⟨markW 0 0, a', a'.length⟩ :: [zP]) more := by
    intro r
    obtain ⟨cs, hcs⟩ : ∃ cs, cs = dotT (jnX a) (jnX b) r := ⟨_, rfl⟩
    have hl0 : Lies (40 :: (jnX a ++ 46 :: 32 :: 40 :: (jnX b ++ r))) cs 0 := ⟨[], by rw [hcs, List.drop_zero, List.append_nil]; rfl⟩
    have hl1 : Lies (jnX a ++ 46 :: 32 :: 40 :: (jnX b ++ r)) cs 1 := Lies.tail (u := [40]) hl0
    have hl2 : Lies (46 :: 32 :: 40 :: (jnX b ++ r)) cs (1 + (jnX a).length) := hl1.tail
    have hl3 : Lies (40 :: (jnX b ++ r)) cs (1 + (jnX a).length + 2) := Lies.tail (u := [46, 32]) hl2
    have hl4 : Lies (jnX b ++ r) cs (1 + (jnX a).length + 2 + 1) := Lies.tail (u := [40]) hl3
    have s1 := scs_open (Lies.left (u := [40]) hl0)
    obtain ⟨wa, s2, a', ha', hga⟩ := seq_reads (f := 63) (fun d hd => (ha d hd).mono (by omega)) hl1.left
    have s3 := scs_dot (Lies.left (u := [46, 32]) hl2)
    have s4 := scs_open (Lies.left (u := [40]) hl3)
    obtain ⟨wb, s5, b', hb', hgb⟩ := seq_reads (f := 62) hb hl4.left
    have s := s1.trans (s2.trans (s3.trans (s4.trans s5)))
    have hla : a'.length = a.length := by simpa using congrArg List.length ha'
    refine ⟨wa, wb, a', b', ha', hb', by rw [← hcs]; exact s, by rw [← hcs]; exact hl4.tail, fun more => ?_⟩
    have k0 : ∀ i, (markW 0 i).kind = 1 := fun i => rfl
    have dz : deepA [zP] = 0 := deepA_zero
    have d1 : ∀ m dt, deepA (⟨markW 0 0, m, dt⟩ :: [zP]) = 1 := fun m dt => by rw [deepA_in (q := ⟨markW 0 0, m, dt⟩) (by show (1 : Nat) ≠ 0 ∧ (1 : Nat) ≠ 5; decide), dz]
    have d2 : ∀ i m dt m2 dt2, deepA (⟨markW 0 i, m, dt⟩ :: ⟨markW 0 0, m2, dt2⟩ :: [zP]) = 2 := fun i m dt m2 dt2 => by rw [deepA_in (q := ⟨markW 0 i, m, dt⟩) (by show (1 : Nat) ≠ 0 ∧ (1 : Nat) ≠ 5; decide), d1]
    have t1 : takeA 64 0 [zP] (markW 0 0) = .ok (1, ⟨markW 0 0, [], 0⟩ :: [zP]) := take_open (by simp [fullA, zP]) (by rw [dz]; omega) (by omega)
    have t3 := take_dot (depth := 64) (c := 1 + sumA a) (i := 1 + (jnX a).length) (w0 := markW 0 0) (m := a') (ps := [zP]) rfl (by omega)
    have t4 := take_open (depth := 64) (c := 1 + sumA a) (i := 1 + (jnX a).length + 2) (q := ⟨markW 0 0, a', a'.length⟩) (ps := [zP]) (by simp [fullA]) (by rw [d1]; omega) (by omega)
    have e0 : ∀ m : List Wd, [markW 0 0] ++ (wa ++ ([dotW (1 + (jnX a).length)] ++ ([markW 0 (1 + (jnX a).length + 2)] ++ wb))) ++ m = markW 0 0 :: (wa ++ (dotW (1 + (jnX a).length) :: (markW 0 (1 + (jnX a).length + 2) :: (wb ++ m)))) := fun m => by simp
    rw [e0, takesA_go t1, hga 64 1 (markW 0 0) [] [zP] _ rfl (by rw [d1]) (by omega), List.nil_append, takesA_go t3, takesA_go t4, hgb 64 (1 + sumA a + 1) _ [] _ more rfl (by rw [d2]) (by omega), List.nil_append]
    rw [show 1 + sumA a + 1 + sumA b = 2 + sumA a + sumA b by omega]
  refine ⟨?_, ?_⟩
  · obtain ⟨wa, wb, a', b', ha', hb', s, hlr, htk⟩ := core [41, 41]
    have hla : a'.length = a.length := by simpa using congrArg List.length ha'
    obtain ⟨q, hq⟩ : ∃ q, q = 1 + (jnX a).length + 2 + 1 + (jnX b).length := ⟨_, rfl⟩
    rw [← hq] at s hlr
    have s1 := scs_shut (Lies.left (u := [41]) hlr)
    have s2 := scs_shut (Lies.tail (u := [41]) hlr)
    have hlen : (dotT (jnX a) (jnX b) [41, 41]).length = q + 1 + 1 := by rw [hq]; unfold dotT; simp; omega
    have hall := s.trans (s1.trans s2)
    simp only [List.length_singleton] at hall
    rw [← hlen] at hall
    obtain ⟨he1, he2⟩ := dotT_enc ha hb (r := [41, 41]) (by decide)
    rw [← he2]
    obtain ⟨w2, hw2⟩ : ∃ w2, w2 = markW 0 (1 + (jnX a).length + 2) := ⟨_, rfl⟩
    have hk2 : w2.kind = 1 := by rw [hw2]; rfl
    have hp2 : (datA ⟨w2, b', 0⟩) = .mk 1 [] false [] b' (w2.pl : Nat) := datB_list hk2
    refine ⟨.mk 1 [] false [] (a' ++ b') ((markW 0 0).pl : Nat), ?_, read_one hall he1 ?_ ?_⟩
    · rw [strip_mk, strip_mk, List.map_append, List.map_append, ha', hb']
    · rw [he2]; unfold dotT; simp; omega
    · rw [htk, ← hw2]
      show takesA 64 _ _ [markW 1 q, markW 1 (q + 1)] = _
      rw [takesA_go (take_shut hk2 lacksA_zero), hp2, addA_put' (p := ⟨markW 0 0, a', a'.length⟩) (by show (1 : Nat) ≠ 6; decide) (by show (1 : Nat) ≠ 5; decide),
        takesA_go (take_shut rfl lacksA_more), datB_join (m := a') rfl (by omega) (.inl rfl)]
      rfl
  · obtain ⟨wa, wb, a', b', ha', hb', s, hlr, htk⟩ := core [46, 32, 122, 122, 41, 41]
    have hla : a'.length = a.length := by simpa using congrArg List.length ha'
    have hlb : b'.length = b.length := by simpa using congrArg List.length hb'
    obtain ⟨q, hq⟩ : ∃ q, q = 1 + (jnX a).length + 2 + 1 + (jnX b).length := ⟨_, rfl⟩
    rw [← hq] at s hlr
    obtain ⟨hz1, hz2, hz3⟩ := zz_ok
    have s1 := scs_dot (Lies.left (u := [46, 32]) hlr)
    have hlz : Lies (zzD.tx ++ 41 :: [41]) (dotT (jnX a) (jnX b) [46, 32, 122, 122, 41, 41]) (q + 2) := by rw [hz2]; exact Lies.tail (u := [46, 32]) hlr
    obtain ⟨h41, hlt⟩ := lies_next hlz
    obtain ⟨wz, s2, z', hz', hgz⟩ := (writes_dm hz1.ok hz1.pl hz1.by').reads _ _ hlz.left (.inr ⟨hlt, by rw [h41]; decide⟩)
    have hl5 : Lies [41, 41] (dotT (jnX a) (jnX b) [46, 32, 122, 122, 41, 41]) (q + 2 + zzD.tx.length) := hlz.tail
    have s3 := scs_shut (Lies.left (u := [41]) hl5)
    have s4 := scs_shut (Lies.tail (u := [41]) hl5)
    rw [hz2] at s2 s3 s4
    simp only [List.length_cons, List.length_nil] at s2 s3 s4
    have hlen : (dotT (jnX a) (jnX b) [46, 32, 122, 122, 41, 41]).length = q + 2 + (0 + 1 + 1) + 1 + (0 + 1) := by rw [hq]; unfold dotT; simp; omega
    have hall := s.trans (s1.trans (s2.trans (s3.trans s4)))
    rw [show q + 2 + (0 + 1 + 1) + (0 + 1) + 1 = (dotT (jnX a) (jnX b) [46, 32, 122, 122, 41, 41]).length by rw [hlen]] at hall
    obtain ⟨he1, he2⟩ := dotT_enc ha hb (r := [46, 32, 122, 122, 41, 41]) (by decide)
    rw [← he2]
    obtain ⟨w2, hw2⟩ : ∃ w2, w2 = markW 0 (1 + (jnX a).length + 2) := ⟨_, rfl⟩
    have hk2 : w2.kind = 1 := by rw [hw2]; rfl
    have hzk : ¬ (z'.k = 1 ∨ z'.k = 2) := by rw [strip_k hz']; show ¬ ((4 : Int) = 1 ∨ (4 : Int) = 2); decide
    have hp2 : (datA ⟨w2, b' ++ [z'], b'.length⟩) = .mk 2 [] false [] (b' ++ [z']) (w2.pl : Nat) := datB_dot hk2 (by omega) hzk
    have hzs : zzD.sz = 1 := leaf_sz
    have dz : deepA [zP] = 0 := deepA_zero
    have d2 : deepA (⟨w2, b', b'.length⟩ :: ⟨markW 0 0, a', a'.length⟩ :: [zP]) = 2 := by rw [deepA_in (q := ⟨w2, b', b'.length⟩) (by show w2.kind ≠ 0 ∧ w2.kind ≠ 5; omega), deepA_in (q := ⟨markW 0 0, a', a'.length⟩) (by show (1 : Nat) ≠ 0 ∧ (1 : Nat) ≠ 5; decide), dz]
    refine ⟨.mk 2 [] false [] (a' ++ (b' ++ [z'])) ((markW 0 0).pl : Nat), ?_, read_one hall he1 ?_ ?_⟩
    · rw [strip_mk, strip_mk, List.map_append, List.map_append, List.map_append, List.map_append, ha', hb', List.map_singleton, List.map_singleton, hz', List.append_assoc]
    · rw [he2]; unfold dotT; simp; omega
    · rw [htk, ← hw2]
      have gz := (hgz 64 (2 + sumA a + sumA b) 62 ⟨w2, b', b'.length⟩ (⟨markW 0 0, a', a'.length⟩ :: [zP]) ([markW 1 (q + 2 + (0 + 1 + 1))] ++ [markW 1 (q + 2 + (0 + 1 + 1) + (0 + 1))]) (by simp [fullA]) (by rw [d2]) (by omega)).1 ⟨(hz1.mono (by omega)).ok, by omega⟩
      show takesA 64 _ _ (dotW q :: (wz ++ ([markW 1 (q + 2 + (0 + 1 + 1))] ++ [markW 1 (q + 2 + (0 + 1 + 1) + (0 + 1))]))) = _
      rw [takesA_go (take_dot hk2 (by omega)), gz, addA_put' (p := ⟨w2, b', b'.length⟩) (by show w2.kind ≠ 6; omega) (by show w2.kind ≠ 5; omega)]
      show takesA 64 _ _ [markW 1 _, markW 1 _] = _
      rw [takesA_go (take_shut hk2 lacksA_more), hp2, addA_put' (p := ⟨markW 0 0, a', a'.length⟩) (by show (1 : Nat) ≠ 6; decide) (by show (1 : Nat) ≠ 5; decide),
        takesA_go (take_shut rfl lacksA_more), datB_join (m := a') rfl (by omega) (.inr rfl)]
      rfl
end Go.Proofs.YtpahfhjgcflifaaGreatDoor
