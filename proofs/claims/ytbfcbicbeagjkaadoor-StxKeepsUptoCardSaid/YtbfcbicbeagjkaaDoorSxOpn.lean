/- stx.open: a piece's wrap is put around the pieces in it. -/
import Derived.Test.YtbfcbicbeagjkaaDoorSxFlt
namespace Go.Proofs.YtbfcbicbeagjkaaDoor
open Go.RowKit

/-- With another wrap. -/
theorem SOwn.re {S T : Nat → Prop} {w : World} {D : Sx} {a0 a1 a2 a3 a4 a5 a6 a7 : Value} {m' s' : List Int} {mv' sv' : Value} (h : SOwn w S D [a0, a1, a2, a3, a4, a5, a6, a7])
    (hm : w.ownsRow 0 3 1 mv' m'.length (ics .i64 m')) (hs : w.ownsRow 0 3 1 sv' s'.length (ics .i64 s')) (hmT : ∀ b, mv'.ownBlock = some b → T b ∧ ¬ S b) (hsT : ∀ b, sv'.ownBlock = some b → T b ∧ ¬ S b) (hST : ∀ b, S b → T b) :
    SOwn w T (reS m' s' D) [a0, a1, a2, a3, a4, a5, mv', sv'] := by
  obtain ⟨k, t, n, r, l, a, m, s⟩ := D
  obtain ⟨_, _, _, _, _, _, hcs, _⟩ := h.row
  simp only [List.cons.injEq, and_true] at hcs
  obtain ⟨rfl, rfl, rfl, rfl, rfl, rfl, rfl, rfl⟩ := hcs
  exact h.wear hm hs hmT hsT hST
/-- What stays while the pieces in one are changed, with the piece's wrap. -/
structure OpI (w : World) (S : Nat → Prop) (g : Nat) (cs : Array Value) (lv mv sv : Value) (r : List Nat) (m s : List Int) (wr : World) : Prop where
  fi : FlI w w S g cs lv r wr
  mr : wr.ownsRow 0 3 1 mv m.length (ics .i64 m)
  sr : wr.ownsRow 0 3 1 sv s.length (ics .i64 s)
theorem OpI.step {w wr wr' : World} {S F : Nat → Prop} {g b : Nat} {cs : Array Value} {lv mv sv : Value} {r : List Nat} {m s : List Int} (h : OpI w S g cs lv mv sv r m s wr) (hF : ∀ c, F c → S c) (hb : S b) (hg : ¬ S g) (hlv : ∀ c, (lv.ownBlock = some c ∨ mv.ownBlock = some c ∨ sv.ownBlock = some c) → ¬ F c ∧ c ≠ b) (hk : Keeps (fun c => ¬ F c ∧ c ≠ b) wr wr') (hB : ∀ B, B ≤ b → B ≤ wr.heap.size → (∀ c, F c → B ≤ c) → Below B wr wr') : OpI w S g cs lv mv sv r m s wr' :=
  ⟨h.fi.step hF hb hg (fun c hc => hlv c (.inl hc)) hk hB, ownsRow_keep h.mr hk fun c hc => hlv c (.inr (.inl hc)), ownsRow_keep h.sr hk fun c hc => hlv c (.inr (.inr hc))⟩
theorem OpI.below {w wr wr' : World} {S : Nat → Prop} {g : Nat} {cs : Array Value} {lv mv sv : Value} {r : List Nat} {m s : List Int} (h : OpI w S g cs lv mv sv r m s wr) (hb : Below wr.heap.size wr wr') : OpI w S g cs lv mv sv r m s wr' :=
  ⟨⟨(hb.block _ (Array.getElem?_eq_some_iff.1 h.fi.gx).1).trans h.fi.gx, ownsRow_keep h.fi.lr (Keeps.of_below (P := fun _ => True) hb) fun _ _ => trivial, h.fi.keep.trans (Keeps.of_below hb), fun B h1 h2 h3 => (h.fi.bel B h1 h2 h3).trans (hb.mono (Nat.le_trans h2 h.fi.keep.1)), Nat.le_trans h.fi.ge hb.size⟩, ownsRow_keep h.mr (Keeps.of_below (P := fun _ => True) hb) fun _ _ => trivial, ownsRow_keep h.sr (Keeps.of_below (P := fun _ => True) hb) fun _ _ => trivial⟩

set_option maxRecDepth 100000 in
set_option maxHeartbeats 8000000 in
/-- stx.open. -/
theorem open_any (k : Int) (t : ByteArray) (n : Bool) (r : List Nat) (l : List Sx) (a : Int) (dm ds : List Int) (us : List Value) (S : Nat → Prop) (g off : Nat) (cs : Array Value) (w : World) (hso : SOwn w S (.mk k t n r l a dm ds) us) (hSb : ∀ b, S b → b < w.heap.size) (hSg : ¬ S g) (hgb : w.heap[g]? = some (.cells cs 28 (0, 0))) (hoff : off + 8 ≤ cs.size) (hcs : (cs.toList.drop off).take 8 = us) :
    Calls Tryd.prog 23 #[.pointer (some ⟨g, off, none⟩)] w (FltPost (.mk k t n r (l.map (pshS dm ds)) a [] []) S g off cs w) := by
  obtain ⟨lv, av, mv, sv, xs, Fc0, rfl, ht, hlim, hr, hl, hm, hs, hrp, hmp, hsp, hlp, hsub, hdis, hin⟩ := hso.row
  obtain ⟨lo, lc, rfl⟩ := own_dslice hr
  obtain ⟨ao, ac, rfl⟩ := own_dslice hl
  obtain ⟨mo, mc, rfl⟩ := own_dslice hm
  obtain ⟨so, sc, rfl⟩ := own_dslice hs
  have HTL := Lib.hid (And.intro ht hlim)
  have HRP : Hid (∀ c, ((Value.slice lo r.length lc).ownBlock = some c ∨ (Value.slice mo dm.length mc).ownBlock = some c ∨ (Value.slice so ds.length sc).ownBlock = some c) → S c ∧ ∀ i, ¬ Fc0 i c) := Lib.hid fun c hc => by
    rcases hc with hc | hc | hc
    · exact hrp c hc
    · exact hmp c hc
    · exact hsp c hc
  have HLP := Lib.hid hlp
  have HSUB := Lib.hid hsub
  have HDIS := Lib.hid hdis
  have HIN := Lib.hid hin
  have HLL := Lib.hid hl
  have HS := Lib.hid hSb
  have HG := Lib.hid hSg
  have HOF := Lib.hid hoff
  have HCS := Lib.hid hcs
  have HGL : Hid (g < w.heap.size) := Lib.hid (Array.getElem?_eq_some_iff.1 hgb).1
  have HOI : Hid (OpI w S g cs (.slice lo r.length lc) (.slice mo dm.length mc) (.slice so ds.length sc) r dm ds w) := Lib.hid ⟨⟨hgb, hr, Keeps.refl _ w, fun B _ _ _ => Below.refl B w, Nat.le_refl _⟩, hm, hs⟩
  have hmx : l.length ≤ 9223372036854775807 := by have := (RowV.of_own hl).2.1; unfold maxLen at this; omega
  have HMX := Lib.hid hmx
  clear hso hSb hSg hgb hoff hcs ht hlim hr hl hm hs hrp hmp hsp hlp hsub hdis hin hmx
  obtain ⟨c0, c1, c2, c3, c4, c5, c6, c7⟩ := cells_of HOI.out.fi.gx HCS.out
  go_enter Tryd.func23, Tryd.ntmps23
  go_wp2_with fail
  clear c0 c1 c2 c3 c4 c5 c6 c7
  rcases HLL.out.2 with ⟨hv, hn0⟩ | ⟨b, cap0, cur, hv, hge, hblk, hnc, hcm, hcz, htk⟩
  · injection hv with hv1 hv2 hv3
    subst hv1 hv3
    obtain rfl : l = [] := List.eq_nil_of_length_eq_zero hn0
    go_loopw [10] (fun v wr => v = .int .i64 0 ∧ OpI w S g cs (.slice lo r.length lc) (.slice mo dm.length mc) (.slice so ds.length sc) r dm ds wr) (fun _ _ => 0)
    case atStart => exact ⟨rfl, HOI.out⟩
    case round =>
      obtain ⟨rfl, hoi⟩ := hrel
      have HOI := Lib.hid hoi
      clear hoi
      obtain ⟨c0, c1, c2, c3, c4, c5, c6, c7⟩ := cells_of HOI.out.fi.gx HCS.out
      go_wp2_with fail
      clear c0 c1 c2 c3 c4 c5 c6 c7
      refine (wearO_any g off cs none 0 0 none 0 0 wr HOI.out.fi.gx HOF.out).mono ?_
      rintro e w9 ⟨rfl, ⟨cs', hgx', hwc⟩, hk9, hb9⟩
      have HE := Lib.hid (And.intro hgx' (And.intro hwc (And.intro hk9 hb9)))
      clear hgx' hwc hk9 hb9
      go_wp2_with fail
      go_end0
      have hk9 := HE.out.2.2.1
      have hgl := HGL.out
      have hlr := ownsRow_keep HOI.out.fi.lr hk9 fun c hc => fun e => HG.out (e ▸ (HRP.out c (.inl hc)).1)
      have hkp : Keeps (fun c => ¬ S c ∧ c ≠ g) w w9 := ⟨Nat.le_trans HOI.out.fi.keep.1 hk9.1, fun c hc h => (hk9.2 c (Nat.lt_of_lt_of_le hc HOI.out.fi.keep.1) h.2).trans (HOI.out.fi.keep.2 c hc h)⟩
      have hbl : ∀ B, B ≤ g → B ≤ w.heap.size → (∀ b, S b → B ≤ b) → Below B w w9 := fun B h1 h2 h3 => (HOI.out.fi.bel B h1 h2 h3).trans (HE.out.2.2.2 B h1 (Nat.le_trans h2 HOI.out.fi.keep.1))
      refine ⟨rfl, ⟨cs', _, fun c => (S c ∨ w.heap.size ≤ c) ∧ c < w9.heap.size, HE.out.1, HE.out.2.1.1, fun i hi => HE.out.2.1.2.1 i (by omega) (by omega), wear_cells HCS.out HE.out.2.1, .mk (Fc := fun _ _ => False) HTL.out.1 HTL.out.2 hlr (World.ownsRow_nil _ _ _ _) (World.ownsRow_nil _ _ _ _) (World.ownsRow_nil _ _ _ _) (fun c hc => ⟨⟨.inl (HRP.out c (.inl hc)).1, by have := HS.out c (HRP.out c (.inl hc)).1; have := hkp.1; omega⟩, fun i hi => hi⟩) (fun c hc => by cases hc) (fun c hc => by cases hc) (fun c hc => by cases hc) (fun _ _ h => h.elim) (fun _ _ _ _ h => h.elim) (fun i hi => by cases hi), fun c hc => hc⟩, hkp, hbl⟩
  · injection hv with hv1 hv2 hv3
    subst hv1 hv3
    have hSb : S b := (HLP.out b rfl).1
    have HBK := Lib.hid (And.intro hnc (And.intro hcm (And.intro hcz hSb)))
    have hrow8 := row_of (D := .mk k t n r l a dm ds) hblk hnc hcz htk (fun i h => HIN.out i h) HDIS.out (HLP.out b rfl).2 HSUB.out HS.out
    have HR8 := Lib.hid hrow8
    have HBS : Hid (b < w.heap.size) := Lib.hid (HS.out b hSb)
    clear hge hblk hnc hcm hcz htk hrow8 hSb
    go_loopw [10] (fun v wr => ∃ (j : Nat) (cb : Array Value) (T : Nat → Sx) (Fc : Nat → Nat → Prop), v = .int .i64 (j : Nat) ∧ j ≤ l.length ∧ cb.size = ac * 8 ∧ (∀ (i : Nat) (h : i < l.length), T i = if i < j then pshS dm ds (l[i]'h) else l[i]'h) ∧ (∀ i c, Fc i c → Fc0 i c ∨ (w.heap.size ≤ c ∧ i < j)) ∧ RowO wr b cb T l.length Fc ∧ OpI w S g cs (.slice lo r.length lc) (.slice mo dm.length mc) (.slice so ds.length sc) r dm ds wr) (fun v _ => l.length - (intOf v).toNat)
    case atStart => exact ⟨0, cur, _, Fc0, rfl, Nat.zero_le _, HBK.out.2.2.1, fun i h => (lfn_at h).trans (if_neg (by omega)).symm, fun i c h => .inl h, HR8.out, HOI.out⟩
    case round =>
      clear HOI HR8
      obtain ⟨j, cb, T, Fc, rfl, hj, hcz, hT, hFc, hro, hoi⟩ := hrel
      have hmx := HMX.out
      have HOI := Lib.hid hoi
      have HRO := Lib.hid hro
      have HRO0 := Lib.hid hro
      have HST := Lib.hid (And.intro hcz (And.intro hT hFc))
      clear hcz hT hFc hro hoi
      by_cases hjl : j < l.length
      · have hii : ((j : Nat) : Int) < ((l.length : Nat) : Int) := by omega
        have hej := HRO.out.each j hjl
        have hTj : T j = l[j]'hjl := (HST.out.2.1 j hjl).trans (if_neg (by omega))
        rw [hTj] at hej
        obtain ⟨kx, tx, nx, xo, xn, xc, yo, yn, yc, ax, po, pn, pc, qo, qn, qc, hsh⟩ := sx_shapes hej.lay
        have HCJ := Lib.hid hsh
        have HEJ := Lib.hid hej
        rw [hsh] at HEJ
        have HEW : Hid (Wr wr (.agg #[.slice po pn pc, .slice qo qn qc]) (l[j]'hjl).m (l[j]'hjl).s) := Lib.hid (by
          have h := HEJ.out.lay
          obtain ⟨_, _, mv9, sv9, _, he9, _, _, _, _, hm9, hs9, _⟩ := h.open'
          simp only [List.cons.injEq, and_true] at he9
          obtain ⟨_, _, _, _, _, _, rfl, rfl⟩ := he9
          exact ⟨_, _, rfl, hm9, hs9⟩)
        have HDW : Hid (Wr wr (.agg #[.slice mo dm.length mc, .slice so ds.length sc]) dm ds) := Lib.hid ⟨_, _, rfl, RowV.of_own HOI.out.mr, RowV.of_own HOI.out.sr⟩
        have HLT := Lib.hid (And.intro (Array.getElem?_eq_some_iff.1 HOI.out.fi.gx).1 (Array.getElem?_eq_some_iff.1 HRO.out.blk).1)
        obtain ⟨J, HJ⟩ : ∃ J, Hid (wjA dm ds (l[j]'hjl).m (l[j]'hjl).s = J) := ⟨_, Lib.hid rfl⟩
        clear hej hTj hsh
        go_upto_region 3 with fail
        refine wp_region_late 17 16 14 3 27 (psi [isV (.pointer (some ⟨g, off, none⟩)), isV (.pointer (some ⟨g, off, none⟩)), isV (.agg #[.int .i64 k, .string t, .bool n, .slice lo r.length lc, .slice (some ⟨b, 0, none⟩) l.length ac, .int .i64 a, .slice mo dm.length mc, .slice so ds.length sc]), isV (.agg #[.slice mo dm.length mc, .slice so ds.length sc]), isV (.pointer (some ⟨g, off, none⟩)), isV (.pointer (some ⟨g, off, none⟩)), isV (.pointer (some ⟨g, off + 4, none⟩)), isV (.slice (some ⟨b, 0, none⟩) l.length ac), isV (.int .i64 (j : Nat)), isV (.pointer (some ⟨b, j * 8, none⟩)), isV (.agg #[.int .i64 kx, .string tx, .bool nx, .slice xo xn xc, .slice yo yn yc, .int .i64 ax, .slice po pn pc, .slice qo qn qc]), isV (.agg #[.slice po pn pc, .slice qo qn qc]), isJnO wr.heap.size J, isJnO wr.heap.size J, isWrO wr.heap.size J.1 J.2.1, isV (.int .i64 J.2.2), isBoxW wr.heap.size, nothing, isV (.int .i64 J.2.2)]) (fun W => Below wr.heap.size wr W) (FillsW) (by kernel_rfl) (Below.refl _ _).drew (psi_mono ?_) (by kernel_rfl) (by kernel_rfl) (by kernel_rfl) ?_ ?_
        · intro pq hp
          simp only [List.mem_cons, List.not_mem_nil, or_false] at hp
          (repeat' rcases hp with rfl | hp) <;> first | exact isV_stays _ | exact nothing_stays | (subst hp; first | exact isV_stays _ | exact nothing_stays) | exact isBoxW_stays _ | exact isJnO_stays _ _ | exact isWrO_stays _ _ _ | (subst hp; exact isBoxW_stays _) | (subst hp; exact isJnO_stays _ _) | (subst hp; exact isWrO_stays _ _ _)
        · refine AllOps.cons ?_ ?_
          · refine OpL.early (by kernel_rfl) (by kernel_rfl) fun ab W hC hB hdep => ?_
            refine .inl ⟨rfl, ?_⟩
            have b0 : ab.tmps.getD 0 undef = .pointer (some ⟨g, off, none⟩) := hB.off 0 (by kernel_rfl)
            clear hB hdep
            refine goes_value (v := .pointer (some ⟨g, off, none⟩)) ?_ hC rfl
            simp only [execOp, Act.eval, b0]
            go_simp
          refine AllOps.cons ?_ ?_
          · refine OpL.early (by kernel_rfl) (by kernel_rfl) fun ab W hC hB hdep => ?_
            refine .inl ⟨rfl, ?_⟩
            obtain ⟨x0, (q0 : (isV (.pointer (some ⟨g, off, none⟩))) x0 W), e0⟩ := hdep 0 14 (by kernel_rfl)
            obtain rfl : x0 = .pointer (some ⟨g, off, none⟩) := q0
            clear hB hdep
            refine goes_value (v := .pointer (some ⟨g, off, none⟩)) ?_ hC rfl
            simp only [execOp, Act.eval, e0]
            go_simp
          refine AllOps.cons ?_ ?_
          · refine OpL.early (by kernel_rfl) (by kernel_rfl) fun ab W hC hB hdep => ?_
            refine .inl ⟨rfl, ?_⟩
            obtain ⟨x0, (q0 : (isV (.pointer (some ⟨g, off, none⟩))) x0 W), e0⟩ := hdep 1 15 (by kernel_rfl)
            obtain rfl : x0 = .pointer (some ⟨g, off, none⟩) := q0
            obtain ⟨c0, c1, c2, c3, c4, c5, c6, c7⟩ := cells_of ((hC.block _ HLT.out.1).trans HOI.out.fi.gx) HCS.out
            clear hB hdep
            refine goes_value (v := .agg #[.int .i64 k, .string t, .bool n, .slice lo r.length lc, .slice (some ⟨b, 0, none⟩) l.length ac, .int .i64 a, .slice mo dm.length mc, .slice so ds.length sc]) ?_ hC rfl
            simp only [execOp, Act.eval, e0]
            go_simp
          refine AllOps.cons ?_ ?_
          · refine OpL.early (by kernel_rfl) (by kernel_rfl) fun ab W hC hB hdep => ?_
            refine .inl ⟨rfl, ?_⟩
            obtain ⟨x0, (q0 : (isV (.agg #[.int .i64 k, .string t, .bool n, .slice lo r.length lc, .slice (some ⟨b, 0, none⟩) l.length ac, .int .i64 a, .slice mo dm.length mc, .slice so ds.length sc])) x0 W), e0⟩ := hdep 2 16 (by kernel_rfl)
            obtain rfl : x0 = .agg #[.int .i64 k, .string t, .bool n, .slice lo r.length lc, .slice (some ⟨b, 0, none⟩) l.length ac, .int .i64 a, .slice mo dm.length mc, .slice so ds.length sc] := q0
            clear hB hdep
            refine goes_call (f := 18) (args := #[.agg #[.int .i64 k, .string t, .bool n, .slice lo r.length lc, .slice (some ⟨b, 0, none⟩) l.length ac, .int .i64 a, .slice mo dm.length mc, .slice so ds.length sc]]) ?_ ?_
            · simp only [execOp]
              go_simp
            · exact (worn_any _ _ _ _ _ _ _ _ _ _ _ _ _ _ _ _ W).mono fun e w7 ⟨he, hb⟩ => ⟨_, he, hC.trans (hb.mono hC.size), hb, rfl⟩
          refine AllOps.cons ?_ ?_
          · refine OpL.early (by kernel_rfl) (by kernel_rfl) fun ab W hC hB hdep => ?_
            refine .inl ⟨rfl, ?_⟩
            have b0 : ab.tmps.getD 0 undef = .pointer (some ⟨g, off, none⟩) := hB.off 0 (by kernel_rfl)
            clear hB hdep
            refine goes_value (v := .pointer (some ⟨g, off, none⟩)) ?_ hC rfl
            simp only [execOp, Act.eval, b0]
            go_simp
          refine AllOps.cons ?_ ?_
          · refine OpL.early (by kernel_rfl) (by kernel_rfl) fun ab W hC hB hdep => ?_
            refine .inl ⟨rfl, ?_⟩
            obtain ⟨x0, (q0 : (isV (.pointer (some ⟨g, off, none⟩))) x0 W), e0⟩ := hdep 4 18 (by kernel_rfl)
            obtain rfl : x0 = .pointer (some ⟨g, off, none⟩) := q0
            clear hB hdep
            refine goes_value (v := .pointer (some ⟨g, off, none⟩)) ?_ hC rfl
            simp only [execOp, Act.eval, e0]
            go_simp
          refine AllOps.cons ?_ ?_
          · refine OpL.early (by kernel_rfl) (by kernel_rfl) fun ab W hC hB hdep => ?_
            refine .inl ⟨rfl, ?_⟩
            obtain ⟨x0, (q0 : (isV (.pointer (some ⟨g, off, none⟩))) x0 W), e0⟩ := hdep 5 19 (by kernel_rfl)
            obtain rfl : x0 = .pointer (some ⟨g, off, none⟩) := q0
            clear hB hdep
            refine goes_value (v := .pointer (some ⟨g, off + 4, none⟩)) ?_ hC rfl
            simp only [execOp, Act.eval, e0]
            go_simp
          refine AllOps.cons ?_ ?_
          · refine OpL.early (by kernel_rfl) (by kernel_rfl) fun ab W hC hB hdep => ?_
            refine .inl ⟨rfl, ?_⟩
            obtain ⟨x0, (q0 : (isV (.pointer (some ⟨g, off + 4, none⟩))) x0 W), e0⟩ := hdep 6 20 (by kernel_rfl)
            obtain rfl : x0 = .pointer (some ⟨g, off + 4, none⟩) := q0
            obtain ⟨c0, c1, c2, c3, c4, c5, c6, c7⟩ := cells_of ((hC.block _ HLT.out.1).trans HOI.out.fi.gx) HCS.out
            clear hB hdep
            refine goes_value (v := .slice (some ⟨b, 0, none⟩) l.length ac) ?_ hC rfl
            simp only [execOp, Act.eval, e0]
            go_simp
          refine AllOps.cons ?_ ?_
          · refine OpL.early (by kernel_rfl) (by kernel_rfl) fun ab W hC hB hdep => ?_
            refine .inl ⟨rfl, ?_⟩
            have b0 : ab.tmps.getD 2 undef = .int .i64 (j : Nat) := hB.off 2 (by kernel_rfl)
            clear hB hdep
            refine goes_value (v := .int .i64 (j : Nat)) ?_ hC rfl
            simp only [execOp, Act.eval, b0]
            go_simp
          refine AllOps.cons ?_ ?_
          · refine OpL.early (by kernel_rfl) (by kernel_rfl) fun ab W hC hB hdep => ?_
            refine .inl ⟨rfl, ?_⟩
            obtain ⟨x0, (q0 : (isV (.slice (some ⟨b, 0, none⟩) l.length ac)) x0 W), e0⟩ := hdep 7 21 (by kernel_rfl)
            obtain rfl : x0 = .slice (some ⟨b, 0, none⟩) l.length ac := q0
            obtain ⟨x1, (q1 : (isV (.int .i64 (j : Nat))) x1 W), e1⟩ := hdep 8 22 (by kernel_rfl)
            obtain rfl : x1 = .int .i64 (j : Nat) := q1
            clear hB hdep
            refine goes_value (v := .pointer (some ⟨b, j * 8, none⟩)) ?_ hC rfl
            simp only [execOp, Act.eval, e0, e1]
            go_simp
          refine AllOps.cons ?_ ?_
          · refine OpL.early (by kernel_rfl) (by kernel_rfl) fun ab W hC hB hdep => ?_
            refine .inl ⟨rfl, ?_⟩
            obtain ⟨x0, (q0 : (isV (.pointer (some ⟨b, j * 8, none⟩))) x0 W), e0⟩ := hdep 9 23 (by kernel_rfl)
            obtain rfl : x0 = .pointer (some ⟨b, j * 8, none⟩) := q0
            obtain ⟨c0, c1, c2, c3, c4, c5, c6, c7⟩ := cells_of ((hC.block _ HLT.out.2).trans HRO.out.blk) HCJ.out
            clear hB hdep
            refine goes_value (v := .agg #[.int .i64 kx, .string tx, .bool nx, .slice xo xn xc, .slice yo yn yc, .int .i64 ax, .slice po pn pc, .slice qo qn qc]) ?_ hC rfl
            simp only [execOp, Act.eval, e0]
            go_simp
          refine AllOps.cons ?_ ?_
          · refine OpL.early (by kernel_rfl) (by kernel_rfl) fun ab W hC hB hdep => ?_
            refine .inl ⟨rfl, ?_⟩
            obtain ⟨x0, (q0 : (isV (.agg #[.int .i64 kx, .string tx, .bool nx, .slice xo xn xc, .slice yo yn yc, .int .i64 ax, .slice po pn pc, .slice qo qn qc])) x0 W), e0⟩ := hdep 10 24 (by kernel_rfl)
            obtain rfl : x0 = .agg #[.int .i64 kx, .string tx, .bool nx, .slice xo xn xc, .slice yo yn yc, .int .i64 ax, .slice po pn pc, .slice qo qn qc] := q0
            clear hB hdep
            refine goes_call (f := 18) (args := #[.agg #[.int .i64 kx, .string tx, .bool nx, .slice xo xn xc, .slice yo yn yc, .int .i64 ax, .slice po pn pc, .slice qo qn qc]]) ?_ ?_
            · simp only [execOp]
              go_simp
            · exact (worn_any _ _ _ _ _ _ _ _ _ _ _ _ _ _ _ _ W).mono fun e w7 ⟨he, hb⟩ => ⟨_, he, hC.trans (hb.mono hC.size), hb, rfl⟩
          refine AllOps.cons ?_ ?_
          · refine OpL.early (by kernel_rfl) (by kernel_rfl) fun ab W hC hB hdep => ?_
            refine .inl ⟨rfl, ?_⟩
            obtain ⟨x0, (q0 : (isV (.agg #[.slice mo dm.length mc, .slice so ds.length sc])) x0 W), e0⟩ := hdep 3 17 (by kernel_rfl)
            obtain rfl : x0 = .agg #[.slice mo dm.length mc, .slice so ds.length sc] := q0
            obtain ⟨x1, (q1 : (isV (.agg #[.slice po pn pc, .slice qo qn qc])) x1 W), e1⟩ := hdep 11 25 (by kernel_rfl)
            obtain rfl : x1 = .agg #[.slice po pn pc, .slice qo qn qc] := q1
            clear hB hdep
            refine goes_call (f := 17) (args := #[.agg #[.slice mo dm.length mc, .slice so ds.length sc], .agg #[.slice po pn pc, .slice qo qn qc]]) ?_ ?_
            · simp only [execOp]
              go_simp
            · exact (wjoinO_any _ _ dm ds (l[j]'hjl).m (l[j]'hjl).s W (HDW.out.below hC) (HEW.out.below hC)).mono fun e w7 ⟨⟨x7, he, hw7⟩, hb⟩ => by rw [HJ.out] at he hw7; exact ⟨_, he, hC.trans (hb.mono hC.size), hb, x7, rfl, hw7.low hC.size⟩
          refine AllOps.cons ?_ ?_
          · refine OpL.early (by kernel_rfl) (by kernel_rfl) fun ab W hC hB hdep => ?_
            refine .inl ⟨rfl, ?_⟩
            obtain ⟨x0, (q0 : (isJnO wr.heap.size J) x0 W), e0⟩ := hdep 12 26 (by kernel_rfl)
            obtain ⟨jx0, rfl, hj0⟩ := q0
            clear hB hdep
            refine goes_value (v := .tuple #[jx0, .int .i64 J.2.2]) ?_ hC ⟨jx0, rfl, hj0⟩
            simp only [execOp, Act.eval, e0]
            go_simp
          refine AllOps.cons ?_ ?_
          · refine OpL.early (by kernel_rfl) (by kernel_rfl) fun ab W hC hB hdep => ?_
            refine .inl ⟨rfl, ?_⟩
            obtain ⟨x0, (q0 : (isJnO wr.heap.size J) x0 W), e0⟩ := hdep 13 13 (by kernel_rfl)
            obtain ⟨jx0, rfl, hj0⟩ := q0
            clear hB hdep
            refine goes_value (v := jx0) ?_ hC hj0
            simp only [execOp, Act.eval, e0]
            go_simp
          refine AllOps.cons ?_ ?_
          · refine OpL.pure (by kernel_rfl) (by kernel_rfl) fun ab W W1 hC hB hdep => .inl ⟨rfl, ?_⟩
            obtain ⟨x0, (q0 : (isJnO wr.heap.size J) x0 W), e0⟩ := hdep 13 13 (by kernel_rfl)
            obtain ⟨jx0, rfl, hj0⟩ := q0
            clear hB hdep
            refine ⟨.int .i64 J.2.2, ?_, rfl⟩
            simp only [execOp, Act.eval, e0]
            go_simp
          refine AllOps.cons ?_ ?_
          · refine OpL.early (by kernel_rfl) (by kernel_rfl) fun ab W hC hB hdep => ?_
            refine .inl ⟨rfl, ?_⟩
            clear hB hdep
            refine goes_world (v := .pointer (some ⟨W.heap.size, 0, none⟩)) (w1 := W.alloc (.cells #[.slice none 0 0, .slice none 0 0] 30)) ?_ (hC.trans ((below1 W _).mono hC.size)) (below1 W _) ⟨_, rfl, hC.size, heap_alloc_new W _⟩
            simp only [execOp]
            go_simp
          refine AllOps.cons ?_ ?_
          · refine OpL.write (by kernel_rfl) fun vals ab W hC hB hdep => ⟨rfl, ?_⟩
            obtain ⟨(q0 : (isBoxW wr.heap.size) (vals 16) W), e0⟩ := hdep 16 3 (by kernel_rfl)
            generalize vals 16 = x0 at *
            obtain ⟨g0, rfl, hge0, hg0⟩ := q0
            obtain ⟨(q1 : (isWrO wr.heap.size J.1 J.2.1) (vals 14) W), e1⟩ := hdep 14 27 (by kernel_rfl)
            generalize vals 14 = x1 at *
            obtain ⟨u1, v1, rfl, hu1, hv1⟩ := WrO.own q1
            obtain ⟨uo1, uc1, rfl⟩ := own_dslice hu1
            obtain ⟨vo1, vc1, rfl⟩ := own_dslice hv1
            clear hB hdep
            obtain ⟨c0, c1, z1, z2⟩ := rowp2d hg0
            refine writes_skip (w1 := (W.setCell ⟨g0, 0, none⟩ _).setCell ⟨g0, 1, none⟩ _) ?_ ⟨_, _, _, rfl, rfl, rfl⟩
            simp only [execOp, Act.eval, e0, e1]
            go_simp
          refine AllOps.cons ?_ ?_
          · refine OpL.pure (by kernel_rfl) (by kernel_rfl) fun ab W W1 hC hB hdep => .inl ⟨rfl, ?_⟩
            obtain ⟨x0, (q0 : (isV (.int .i64 J.2.2)) x0 W), e0⟩ := hdep 15 28 (by kernel_rfl)
            obtain rfl : x0 = .int .i64 J.2.2 := q0
            clear hB hdep
            refine ⟨.int .i64 J.2.2, ?_, rfl⟩
            simp only [execOp, Act.eval, e0]
            go_simp
          exact trivial
        · intro vals aa W0 w8 hC hFin hB hall
          obtain ⟨(k0 : (isV (.pointer (some ⟨g, off, none⟩))) (vals 0) W0), e0⟩ := hall 0 _ rfl (by decide)
          obtain ⟨(k1 : (isV (.pointer (some ⟨g, off, none⟩))) (vals 1) W0), e1⟩ := hall 1 _ rfl (by decide)
          obtain ⟨(k2 : (isV (.agg #[.int .i64 k, .string t, .bool n, .slice lo r.length lc, .slice (some ⟨b, 0, none⟩) l.length ac, .int .i64 a, .slice mo dm.length mc, .slice so ds.length sc])) (vals 2) W0), e2⟩ := hall 2 _ rfl (by decide)
          obtain ⟨(k3 : (isV (.agg #[.slice mo dm.length mc, .slice so ds.length sc])) (vals 3) W0), e3⟩ := hall 3 _ rfl (by decide)
          obtain ⟨(k4 : (isV (.pointer (some ⟨g, off, none⟩))) (vals 4) W0), e4⟩ := hall 4 _ rfl (by decide)
          obtain ⟨(k5 : (isV (.pointer (some ⟨g, off, none⟩))) (vals 5) W0), e5⟩ := hall 5 _ rfl (by decide)
          obtain ⟨(k6 : (isV (.pointer (some ⟨g, off + 4, none⟩))) (vals 6) W0), e6⟩ := hall 6 _ rfl (by decide)
          obtain ⟨(k7 : (isV (.slice (some ⟨b, 0, none⟩) l.length ac)) (vals 7) W0), e7⟩ := hall 7 _ rfl (by decide)
          obtain ⟨(k8 : (isV (.int .i64 (j : Nat))) (vals 8) W0), e8⟩ := hall 8 _ rfl (by decide)
          obtain ⟨(k9 : (isV (.pointer (some ⟨b, j * 8, none⟩))) (vals 9) W0), e9⟩ := hall 9 _ rfl (by decide)
          obtain ⟨(k10 : (isV (.agg #[.int .i64 kx, .string tx, .bool nx, .slice xo xn xc, .slice yo yn yc, .int .i64 ax, .slice po pn pc, .slice qo qn qc])) (vals 10) W0), e10⟩ := hall 10 _ rfl (by decide)
          obtain ⟨(k11 : (isV (.agg #[.slice po pn pc, .slice qo qn qc])) (vals 11) W0), e11⟩ := hall 11 _ rfl (by decide)
          obtain ⟨(k12 : (isJnO wr.heap.size J) (vals 12) W0), e12⟩ := hall 12 _ rfl (by decide)
          obtain ⟨(k13 : (isJnO wr.heap.size J) (vals 13) W0), e13⟩ := hall 13 _ rfl (by decide)
          obtain ⟨(k14 : (isWrO wr.heap.size J.1 J.2.1) (vals 14) W0), e14⟩ := hall 14 _ rfl (by decide)
          obtain ⟨(k15 : (isV (.int .i64 J.2.2)) (vals 15) W0), e15⟩ := hall 15 _ rfl (by decide)
          obtain ⟨(k16 : (isBoxW wr.heap.size) (vals 16) W0), e16⟩ := hall 16 _ rfl (by decide)
          obtain ⟨(k18 : (isV (.int .i64 J.2.2)) (vals 18) W0), e18⟩ := hall 18 _ rfl (by decide)
          have hv : ∀ pq ∈ [((14 : Nat), (.pointer (some ⟨g, off, none⟩) : Value)), ((15 : Nat), (.pointer (some ⟨g, off, none⟩) : Value)), ((16 : Nat), (.agg #[.int .i64 k, .string t, .bool n, .slice lo r.length lc, .slice (some ⟨b, 0, none⟩) l.length ac, .int .i64 a, .slice mo dm.length mc, .slice so ds.length sc] : Value)), ((17 : Nat), (.agg #[.slice mo dm.length mc, .slice so ds.length sc] : Value)), ((18 : Nat), (.pointer (some ⟨g, off, none⟩) : Value)), ((19 : Nat), (.pointer (some ⟨g, off, none⟩) : Value)), ((20 : Nat), (.pointer (some ⟨g, off + 4, none⟩) : Value)), ((21 : Nat), (.slice (some ⟨b, 0, none⟩) l.length ac : Value)), ((22 : Nat), (.int .i64 (j : Nat) : Value)), ((23 : Nat), (.pointer (some ⟨b, j * 8, none⟩) : Value)), ((24 : Nat), (.agg #[.int .i64 kx, .string tx, .bool nx, .slice xo xn xc, .slice yo yn yc, .int .i64 ax, .slice po pn pc, .slice qo qn qc] : Value)), ((25 : Nat), (.agg #[.slice po pn pc, .slice qo qn qc] : Value)), ((26 : Nat), (vals 12 : Value)), ((13 : Nat), (vals 13 : Value)), ((27 : Nat), (vals 14 : Value)), ((28 : Nat), (.int .i64 J.2.2 : Value)), ((3 : Nat), (vals 16 : Value)), ((4 : Nat), (.int .i64 J.2.2 : Value))], aa.tmps.getD pq.1 undef = pq.2 := by
            intro pq hp
            simp only [List.mem_cons, List.not_mem_nil, or_false] at hp
            rcases hp with rfl | rfl | rfl | rfl | rfl | rfl | rfl | rfl | rfl | rfl | rfl | rfl | rfl | rfl | rfl | rfl | rfl | rfl
            · exact (e0 _ rfl).trans k0
            · exact (e1 _ rfl).trans k1
            · exact (e2 _ rfl).trans k2
            · exact (e3 _ rfl).trans k3
            · exact (e4 _ rfl).trans k4
            · exact (e5 _ rfl).trans k5
            · exact (e6 _ rfl).trans k6
            · exact (e7 _ rfl).trans k7
            · exact (e8 _ rfl).trans k8
            · exact (e9 _ rfl).trans k9
            · exact (e10 _ rfl).trans k10
            · exact (e11 _ rfl).trans k11
            · exact e12 _ rfl
            · exact e13 _ rfl
            · exact e14 _ rfl
            · exact (e15 _ rfl).trans k15
            · exact e16 _ rfl
            · exact (e18 _ rfl).trans k18
          have hact := act_fold _ hB hv (by kernel_rfl)
          subst hact
          clear hv hall hB e0 e1 e2 e3 e4 e5 e6 e7 e8 e9 e10 e11 e12 e13 e14 e15 e16 e18
          refine (‹∀ (a : Act) (w : World), Code.wp Tryd.prog _ _ a w → _›) _ _ ?_
          simp only [List.foldl, List.setIfInBounds_toArray, List.set_cons_succ, List.set_cons_zero]
          obtain ⟨q, jo, jc, ko, kc, hpq, hpv, hq, hqx, hmr, hsr, hb8⟩ := fillsO_end hC hFin k16 k14
          rw [hpq, hpv]
          have HQ := Lib.hid hq
          have HBX : Hid (BxW wr q (.slice jo J.1.length jc) (.slice ko J.2.1.length kc) J.1 J.2.1 w8) := Lib.hid ⟨hqx, hmr, hsr⟩
          have HO8 := Lib.hid (HOI.out.below hb8)
          have HR8 := Lib.hid (HRO.out.move (Keeps.of_below hb8))
          have HE8 := Lib.hid (HEJ.out.under hb8)
          have HZ8 : Hid (wr.heap.size ≤ w8.heap.size ∧ w.heap.size ≤ wr.heap.size) := Lib.hid ⟨hb8.size, HOI.out.fi.keep.1⟩
          have HB8 := Lib.hid hb8
          clear hpq hpv hq hqx hmr hsr hb8 hC hFin k12 k13 HLT HDW HEW HOI HRO HEJ
          generalize vals 12 = v12 at *
          generalize vals 13 = v13 at *
          obtain ⟨c0, c1, c2, c3, c4, c5, c6, c7⟩ := cells_of HO8.out.fi.gx HCS.out
          obtain ⟨d0, d1, _, _⟩ := rowp2d HBX.out.qx
          go_upto_region 4 with fail
          go_still_tail 7, (by kernel_rfl)
          change wpList _ _ _ _ _ w8.drew
          clear c0 c1 c2 c3 c4 c5 c6 c7 d0 d1
          have hdr : Below w8.heap.size w8 w8.drew := (Below.refl _ w8).drew
          have HOD := Lib.hid (HO8.out.below hdr)
          have HRD := Lib.hid (HR8.out.move (Keeps.of_below hdr))
          have HED := Lib.hid (HE8.out.under hdr)
          have HBD : Hid (BxW wr q (.slice jo J.1.length jc) (.slice ko J.2.1.length kc) J.1 J.2.1 w8.drew) := Lib.hid ⟨HBX.out.qx, HBX.out.mr, HBX.out.sr⟩
          have HZD : Hid (wr.heap.size ≤ w8.drew.heap.size ∧ w.heap.size ≤ wr.heap.size) := Lib.hid HZ8.out
          have HBW : Hid (Below wr.heap.size wr w8.drew) := Lib.hid (HB8.out.drew)
          clear HO8 HR8 HE8 HBX HZ8 hdr HB8
          generalize w8.drew = W2 at *
          go_wp2_with fail
          refine (wearO_any b (j * 8) cb jo J.1.length jc ko J.2.1.length kc W2 HRD.out.blk (by rw [HST.out.1]; have := HBK.out.1; omega)).mono ?_
          rintro e w9 ⟨rfl, ⟨cb', hblk', hwc⟩, hk9, hb9⟩
          have hzd := HZD.out
          have hF0 : ∀ c, Fc j c → S c := fun c hc => by
            rcases HST.out.2.2 j c hc with h | h
            · exact HSUB.out j c h
            · exact absurd h.2 (by omega)
          have hm9 := own_low (ownsRow_keep HBD.out.mr hk9 fun c hc => own_farT HBD.out.mr HRD.out.blk (by decide) c hc) (Nat.zero_le _)
          have hs9 := own_low (ownsRow_keep HBD.out.sr hk9 fun c hc => own_farT HBD.out.sr HRD.out.blk (by decide) c hc) (Nat.zero_le _)
          have he9 := (HED.out.move (hk9.mono fun c _ hc => fun e => HRD.out.off j (e ▸ hc))).re (T := fun c => Fc j c ∨ (wr.heap.size ≤ c ∧ c < W2.heap.size)) hm9 hs9 (fun c hc => ⟨.inr ⟨(HBD.out.mr.lt c hc).1, (HBD.out.mr.lt c hc).2⟩, fun h => by have := HS.out c (hF0 c h); have := (HBD.out.mr.lt c hc).1; omega⟩) (fun c hc => ⟨.inr ⟨(HBD.out.sr.lt c hc).1, (HBD.out.sr.lt c hc).2⟩, fun h => by have := HS.out c (hF0 c h); have := (HBD.out.sr.lt c hc).1; omega⟩) (fun c h => .inl h)
          have HO2 := Lib.hid (HOD.out.step (F := fun _ => False) (b := b) (fun _ h => h.elim) HBK.out.2.2.2 HG.out (fun c hc => ⟨fun h => h, by
            rcases hc with hc | hc | hc
            · exact own_farT HOD.out.fi.lr HRD.out.blk (by decide) c hc
            · exact own_farT HOD.out.mr HRD.out.blk (by decide) c hc
            · exact own_farT HOD.out.sr HRD.out.blk (by decide) c hc⟩) (hk9.mono fun c _ hc => hc.2) fun B h1 h2 _ => hb9 B h1 h2)
          have HR2 := Lib.hid ((show RowO wr b cb T l.length Fc from HRO0.out).step (n' := l.length) (j := j) (d := pshS dm ds (l[j]'hjl)) (Q := fun c => Fc j c ∨ (wr.heap.size ≤ c ∧ c < W2.heap.size)) hblk' (by rw [hwc.1, HST.out.1]; have := HBK.out.1; omega) (fun i hi _ => hi) (fun i hi hne => drop8_eq fun p h1 h2 => hwc.2.1 p (by omega) (by omega)) (by
              rw [wear_cells HCJ.out hwc]
              have hp : pshS dm ds (l[j]'hjl) = reS J.1 J.2.1 (l[j]'hjl) := by unfold pshS; rw [HJ.out]
              rw [hp]; exact he9) (fun c hc => by
              rcases hc with h | h
              · exact ⟨.inl h, Nat.lt_of_lt_of_le (HRD.out.lt j c h) hk9.1⟩
              · exact ⟨.inr h.1, Nat.lt_of_lt_of_le h.2 hk9.1⟩) ((Keeps.of_below HBW.out).trans (hk9.mono fun c _ hc => hc.2)))
          have HC2 : Hid (cb'.size = ac * 8) := Lib.hid (hwc.1.trans HST.out.1)
          clear hblk' hwc hk9 hb9 hm9 hs9 he9 hF0 hzd
          go_wp2_with fail
          go_roundw
          case measure => simp only [intOf]; omega
          case rel =>
            refine ⟨j + 1, cb', _, _, by go_num, by omega, HC2.out, fun i h => ?_, fun i c hc => ?_, HR2.out, HO2.out⟩
            · by_cases hij : i = j
              · subst hij; rw [updT_self, if_pos (by omega)]
              · rw [updT_ne hij, HST.out.2.1 i h]
                by_cases h3 : i < j
                · rw [if_pos h3, if_pos (by omega)]
                · rw [if_neg h3, if_neg (by omega)]
            · by_cases hij : i = j
              · subst hij
                rw [updP_self] at hc
                rcases hc with h | h
                · rcases HST.out.2.2 i c h with h2 | h2
                  · exact .inl h2
                  · exact absurd h2.2 (by omega)
                · have := HZD.out; exact .inr ⟨by omega, by omega⟩
              · rw [updP_ne hij] at hc
                rcases HST.out.2.2 i c hc with h2 | h2
                · exact .inl h2
                · exact .inr ⟨h2.1, by omega⟩
      · obtain rfl : j = l.length := by omega
        obtain ⟨c0, c1, c2, c3, c4, c5, c6, c7⟩ := cells_of HOI.out.fi.gx HCS.out
        go_wp2_with fail
        clear c0 c1 c2 c3 c4 c5 c6 c7
        refine (wearO_any g off cs none 0 0 none 0 0 wr HOI.out.fi.gx HOF.out).mono ?_
        rintro e w9 ⟨rfl, ⟨cs', hgx', hwc⟩, hk9, hb9⟩
        have HE := Lib.hid (And.intro hgx' (And.intro hwc (And.intro hk9 hb9)))
        clear hgx' hwc hk9 hb9
        go_wp2_with fail
        go_end0
        have hk9 := HE.out.2.2.1
        have hgl := HGL.out
        have hlr := ownsRow_keep HOI.out.fi.lr hk9 fun c hc => fun e => HG.out (e ▸ (HRP.out c (.inl hc)).1)
        have hkp : Keeps (fun c => ¬ S c ∧ c ≠ g) w w9 := ⟨Nat.le_trans HOI.out.fi.keep.1 hk9.1, fun c hc h => (hk9.2 c (Nat.lt_of_lt_of_le hc HOI.out.fi.keep.1) h.2).trans (HOI.out.fi.keep.2 c hc h)⟩
        have hbl : ∀ B, B ≤ g → B ≤ w.heap.size → (∀ b, S b → B ≤ b) → Below B w w9 := fun B h1 h2 h3 => (HOI.out.fi.bel B h1 h2 h3).trans (HE.out.2.2.2 B h1 (Nat.le_trans h2 HOI.out.fi.keep.1))
        have hro := HRO.out.move (hk9.mono fun c _ hc => by
          rcases hc with rfl | ⟨i, hi⟩
          · intro e; exact HG.out (e ▸ HBK.out.2.2.2)
          · rcases HST.out.2.2 i c hi with h | h
            · intro e; exact HG.out (e ▸ HSUB.out i c h)
            · omega)
        have hown := hro.owns HBK.out.1 HBK.out.2.1 HST.out.1
        refine ⟨rfl, ⟨cs', _, fun c => (S c ∨ w.heap.size ≤ c) ∧ c < w9.heap.size, HE.out.1, HE.out.2.1.1, fun i hi => HE.out.2.1.2.1 i (by omega) (by omega), wear_cells HCS.out HE.out.2.1, .mk (Fc := Fc) HTL.out.1 HTL.out.2 hlr (by rw [List.length_map]; exact hown) (World.ownsRow_nil _ _ _ _) (World.ownsRow_nil _ _ _ _) (fun c hc => ⟨⟨.inl (HRP.out c (.inl hc)).1, by have := HS.out c (HRP.out c (.inl hc)).1; have := hkp.1; omega⟩, fun i hi => by
            rcases HST.out.2.2 i c hi with h | h
            · exact (HRP.out c (.inl hc)).2 i h
            · have := HS.out c (HRP.out c (.inl hc)).1; omega⟩) (fun c hc => by cases hc) (fun c hc => by cases hc) (fun c hc => ?_) (fun i c hc => ⟨?_, hro.lt i c hc⟩) hro.dis (fun i hi => ?_), fun c hc => hc⟩, hkp, hbl⟩
        · simp only [Value.ownBlock, Option.some.injEq] at hc
          subst hc
          exact ⟨⟨.inl HBK.out.2.2.2, by have := HBS.out; have := hkp.1; omega⟩, hro.off⟩
        · rcases HST.out.2.2 i c hc with h | h
          · exact .inl (HSUB.out i c h)
          · exact .inr (by omega)
        · have hi2 : i < l.length := by simpa using hi
          have h3 := hro.each i hi2
          rw [HST.out.2.1 i hi2, if_pos hi2] at h3
          rw [List.getElem_map, take_drop8 hi2]
          exact h3
end Go.Proofs.YtbfcbicbeagjkaaDoor
