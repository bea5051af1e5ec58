/-
  CONTRACT OF take: code points that are sure, one after the other.
-/
import Derived.Test.YtbljomfofgocaaaDoorSegTell
import Derived.Deep.QuietTactic
import Derived.BigQuiet
import Derived.Deep.RegionLaw
namespace Go.Proofs.YtbljomfofgocaaaDoor.Seg
open Go.Shelf Go.RowKit Go.Sort
open Utf hiding infoI32 rd_new own_form rdec_any below_drewN new_any write_any close_any
open Ucd hiding grow same Told
open Norm hiding new_any write_any close_any pending_any pending_nil write_nil write_closed close_nil
set_option maxRecDepth 100000

theorem gstep_len {α : Type} (op : α → Bool) (s : List (List α) × List α) (q : α) : (gstep op s q).1.length ≤ s.1.length + 1 := by unfold gstep; split <;> simp
theorem go_len {α : Type} (op : α → Bool) (f : List α → Nat) (L : Nat) : ∀ (ps : List α) (T : List (List α)) (O : List α), (go op f L T O ps).1.length ≤ T.length + ps.length
  | [], T, O => Nat.le_refl _
  | q :: t, T, O => by
    have h := gstep_len op (T, O) q
    simp only [go]
    split
    · simp only [List.length_cons] at h ⊢; omega
    · have := go_len op f L t (gstep op (T, O) q).1 (gstep op (T, O) q).2
      simp only [List.length_cons] at h ⊢; omega
/-- what stands open is no longer than all -/
theorem go_open {L : Nat} {ps : List Pt} {O O1 : List Pt} {T : List (List Pt)} (h : go opP flen L [] O ps = (T, O1, false)) : flen O1 ≤ flen O + 3 * ps.length := by
  have h1 := (go_false opP flen L ps [] O h).1
  have h2 := gfold_flat opP ps ([], O)
  rw [h1] at h2
  simp only [List.flatten_nil, List.nil_append] at h2
  have h3 := congrArg flen h2
  rw [flen_append, flen_append] at h3
  have := flen_le ps
  omega
/-- one more point: what is whole by it, and what stands open ahead of it -/
theorem gstep_two (T : List (List Pt)) (O : List Pt) (q : Pt) : (∀ Z : List Pt, Z = [] → opP q = true → gstep opP (T, O) q = (T ++ shut ([], O), Z ++ [q])) ∧ (opP q = false → gstep opP (T, O) q = (T, O ++ [q])) := by
  refine ⟨fun Z hZ h => ?_, fun h => gstep_on opP (.inl h)⟩
  subst hZ
  by_cases hO : O = []
  · subst hO; rw [gstep_on opP (.inr rfl), shut_none [] rfl]; simp
  · rw [gstep_new opP h hO, shut_some O hO]; simp

/-- behind take -/
def Takes (w : World) (base sb db lim : Nat) (dc : List Value) (vo : Value) (O : List Pt) (e : Nat) (ps : List Pt) (en : Ending) (w' : World) : Prop :=
  ∃ v T O' b, go opP flen lim [] O ps = (T, O', b) ∧ en = .returned (.tuple #[v, .int .i64 (if b then 6 else 0)]) ∧ w'.ownsRow w.heap.size 58 3 v (T.map sgOf).length (sgs (T.map sgOf)) ∧ Chg w w' (Hers sb db vo) ∧
    (b = false → ∃ vo' a', Sm w' base sb db lim dc vo' O' a' (e + ww ps) ∧ ∀ g, vo'.ownBlock = some g → w.heap.size ≤ g ∨ vo.ownBlock = some g) ∧ (b = true → Done w' sb 6)
/-- in the middle of take -/
structure Tk (w wr : World) (base sb db lim : Nat) (dc : List Value) (vo : Value) (O : List Pt) (e : Nat) (ps : List Pt) (bp m c : Nat) (A : Option Addr) (k : Nat) (T : List (List Pt)) (O1 : List Pt) (vl vo1 : Value) (a1 : Nat) : Prop where
  go : go opP flen lim [] O (ps.take k) = (T, O1, false)
  told : wr.ownsRow w.heap.size 58 3 vl (T.map sgOf).length (sgs (T.map sgOf))
  sm : Sm wr base sb db lim dc vo1 O1 a1 (e + ww (ps.take k))
  chg : Chg w wr (Hers sb db vo)
  org : ∀ g, vo1.ownBlock = some g → w.heap.size ≤ g ∨ vo.ownBlock = some g
  pts : wr.ownsRow bp 88 3 (.slice A m c) m (pts ps)

/-- what a step may turn -/
def Two (sb : Nat) (v : Value) (k : Nat) : Prop := k = sb ∨ v.ownBlock = some k
theorem go_stays {L : Nat} {a b O : List Pt} {T : List (List Pt)} {O1 : List Pt} (h : go opP flen L [] O a = (T, O1, true)) : go opP flen L [] O (a ++ b) = (T, O1, true) := by
  rw [go_append, h]; simp
theorem go_big {lim k N7 : Nat} {O O1 O2 ps : List Pt} {T T2 : List (List Pt)} {p : Pt} (hgs : go opP flen lim [] O (ps.take (k + 1)) = ((gstep opP (T, O1) p).1, (gstep opP (T, O1) p).2, decide (lim < flen (gstep opP (T, O1) p).2)))
    (hg2 : gstep opP (T, O1) p = (T2, O2 ++ [p])) (hN : N7 = flen (O2 ++ [p])) (hb : lim < N7) : go opP flen lim [] O ps = (T2, O2 ++ [p], true) := by
  rw [hg2] at hgs
  simp only at hgs
  rw [← hN, decide_eq_true hb] at hgs
  have := go_stays (b := ps.drop (k + 1)) hgs
  rwa [List.take_append_drop] at this
theorem go_small {lim k N7 : Nat} {O O1 O2 ps : List Pt} {T T2 : List (List Pt)} {p : Pt} (hgs : go opP flen lim [] O (ps.take (k + 1)) = ((gstep opP (T, O1) p).1, (gstep opP (T, O1) p).2, decide (lim < flen (gstep opP (T, O1) p).2)))
    (hg2 : gstep opP (T, O1) p = (T2, O2 ++ [p])) (hN : N7 = flen (O2 ++ [p])) (hb : ¬ lim < N7) : go opP flen lim [] O (ps.take (k + 1)) = (T2, O2 ++ [p], false) := by
  rw [hg2] at hgs
  simp only at hgs
  rwa [← hN, decide_eq_false hb] at hgs
section step
variable {w w2 u : World} {base sb db lim e bp m c a2 E : Nat} {dc : List Value} {vo vl2 v2 v6 : Value} {O ps O2 : List Pt} {T2 : List (List Pt)} {A : Option Addr} {p : Pt}
theorem told_step (hT : w2.ownsRow w.heap.size 58 3 vl2 (T2.map sgOf).length (sgs (T2.map sgOf))) (hS : Sm w2 base sb db lim dc v2 O2 a2 E) (hC : Chg w2 u (Two sb v2)) : u.ownsRow w.heap.size 58 3 vl2 (T2.map sgOf).length (sgs (T2.map sgOf)) :=
  Norm.own_keep hT hC fun g hg h => by
    rcases h with h | h
    · exact own_ne hT hS.blk (by decide) (h ▸ hg)
    · exact own_apart hT hS.own (by decide) g hg h
theorem chg_step (hC2 : Chg w w2 (Hers sb db vo)) (hV : ∀ g, v2.ownBlock = some g → w.heap.size ≤ g ∨ vo.ownBlock = some g) (hC : Chg w2 u (Two sb v2)) : Chg w u (Hers sb db vo) :=
  hC2.trans hC fun i hi h => by
    rcases h with h | h
    · exact .inl h
    · rcases hV i h with h | h
      · omega
      · exact .inr (.inr h)
theorem sm_step (hS : Sm w2 base sb db lim dc v2 O2 a2 E) (hC : Chg w2 u (Two sb v2)) (hp : p.p = E) {N7 : Nat} {F7 : List Int} (hN : N7 = F7.length) (hF : fulls (runs (O2 ++ [p])) = F7)
    (hB : Blk u sb 65 (scs lim (.pointer (some ⟨db, 0, none⟩)) v6 a2 (p.p + p.w) 0)) (hO : u.ownsRow base 21 1 v6 N7 (nums F7)) : Sm u base sb db lim dc v6 (O2 ++ [p]) a2 (E + p.w) := by
  refine ⟨by rw [← hp]; exact hB, blk_keep (show Blk _ _ _ _ from hS.dec) hC (fun h => ?_), by rw [hF, ← hN]; exact hO, hS.le, hS.led, ?_⟩
  · rcases h with h | h
    · exact hS.apart h.symm
    · exact hS.ned h
  · have := hS.reach.put hp
    rwa [hp] at this
theorem pts_step (hP : w2.ownsRow bp 88 3 (.slice A m c) m (pts ps)) (hS : Sm w2 base sb db lim dc v2 O2 a2 E) (hC : Chg w2 u (Two sb v2)) : u.ownsRow bp 88 3 (.slice A m c) m (pts ps) :=
  Norm.own_keep hP hC fun g hg h => by
    rcases h with h | h
    · exact own_ne hP hS.blk (by decide) (h ▸ hg)
    · exact own_apart hP hS.own (by decide) g hg h
theorem org_step (hS : w.heap.size ≤ w2.heap.size) (hV : ∀ g, v2.ownBlock = some g → w.heap.size ≤ g ∨ vo.ownBlock = some g) (hA : ∀ g, v6.ownBlock = some g → w2.heap.size ≤ g ∨ v2.ownBlock = some g) : ∀ g, v6.ownBlock = some g → w.heap.size ≤ g ∨ vo.ownBlock = some g := fun g hg => by
  rcases hA g hg with h | h
  · left; omega
  · exact hV g h
end step

set_option maxHeartbeats 8000000 in
theorem take_any (base sb db lim a e m c bp : Nat) (dc : List Value) (vo : Value) (O ps : List Pt) (A : Option Addr) (w : World) (hL : Laid w) (hS : Sm w base sb db lim dc vo O a e)
    (hP : w.ownsRow bp 88 3 (.slice A m c) m (pts ps)) (hm : ps.length = m) (hti : Tile e ps) (hb : base ≤ w.heap.size) (hg : 2 < base) (hsm : flen O + 3 * m ≤ 1073741824) (he : e + ww ps ≤ 1099511627776) :
    Calls Tryd.prog 34 #[.pointer (some ⟨sb, 0, none⟩), .slice A m c] w (Takes w base sb db lim dc vo O e ps) := by
  obtain ⟨i0, hi, hz0, hz1, hz2⟩ := info_parts Ucd.infoI32
  have H0 := Lib.hid (show Tk w w base sb db lim dc vo O e ps bp m c A 0 [] O (.slice none 0 0) vo a from
    ⟨rfl, World.ownsRow_nil _ _ _ _, by simpa [ww_nil] using hS, Chg.refl _ _, fun g h => .inr h, hP⟩)
  have HLOW := Lib.hid (fun i (hi : i < base) => hS.hers hi)
  have HL := Lib.hid hL; have HM := Lib.hid hm; have HTI := Lib.hid hti; have HSM := Lib.hid hsm; have HE := Lib.hid he
  have hm1 : m ≤ 1073741824 := by omega
  clear hL hS hP hm hti hsm he
  go_enter Tryd.func34, Tryd.ntmps34
  go_wp2_with fail
  go_loopw [6, 11] (fun vl i wr => ∃ (k : Nat) (T : List (List Pt)) (O1 : List Pt) (vo1 : Value) (a1 : Nat), k ≤ m ∧ i = .int .i64 k ∧ Hid (Tk w wr base sb db lim dc vo O e ps bp m c A k T O1 vl vo1 a1)) (fun _ i _ => m - (intOf i).toNat)
  case atStart => exact ⟨0, [], O, vo, a, Nat.zero_le _, rfl, H0⟩
  case round =>
    obtain ⟨k, T, O1, vo1, a1, hk, rfl, H1⟩ := hrel
    clear H0
    by_cases hlt : k < m
    · have hkl : k < ps.length := by rw [HM.out]; exact hlt
      have hrd := Rd.of_own H1.out.pts
      obtain ⟨bq, oq, rfl, hbq⟩ := hrd.form (by rw [pts_len]; omega)
      obtain ⟨p1, p2, p3⟩ := hrd.pt hkl
      have hts : ps.take (k + 1) = ps.take k ++ [ps[k]] := List.take_succ_eq_append_getElem hkl
      have htl := HTI.out
      rw [← List.take_append_drop k ps, tile_append] at htl
      have hq1 : ps[k].p = e + ww (ps.take k) := by
        have := htl.2
        rw [List.drop_eq_getElem_cons hkl] at this
        exact this.1
      have hww : ww (ps.take (k + 1)) ≤ ww ps := by
        have := ww_append (ps.take (k + 1)) (ps.drop (k + 1))
        rw [List.take_append_drop] at this
        omega
      have hgs := go_snoc opP flen lim (ps.take k) ps[k] [] O H1.out.go
      have hgo := go_open H1.out.go
      have hgl := go_len opP flen lim (ps.take k) [] O
      rw [H1.out.go] at hgl
      simp only [List.length_nil, List.length_take, Nat.zero_add] at hgl hgo
      rw [← hts] at hgs
      obtain ⟨p, hp⟩ : ∃ p, p = ps[k] := ⟨_, rfl⟩
      rw [← hp] at p1 p2 p3 hts hq1 hgs
      rw [hts, ww_append, ww_cons, ww_nil, Nat.add_zero] at hww
      obtain ⟨E, hEE⟩ : ∃ E, E = e + ww (ps.take k) := ⟨_, rfl⟩
      have hEb : E + p.w ≤ 1099511627776 := by have := HE.out; omega
      rw [← hEE] at hq1
      have HTS := Lib.hid hts; have HGS := Lib.hid hgs; have HQ1 := Lib.hid hq1; have HEE := Lib.hid hEE
      have hTl : (T.map sgOf).length ≤ 1073741824 := by rw [List.length_map]; omega
      have hO1 : flen O1 + 3 ≤ 1073741824 := by have := HSM.out; omega
      have HO1 := Lib.hid hO1; have HTL := Lib.hid hTl
      have HS1 := Lib.hid H1.out.sm
      rw [← hEE] at HS1
      have hLr := HL.out.below (H1.out.chg.below hb HLOW.out) hg
      obtain ⟨x, hx⟩ : ∃ x : Int, x = (p.r : Int) := ⟨_, rfl⟩
      obtain ⟨y, hy⟩ : ∃ y : Int, y = (p.p : Int) := ⟨_, rfl⟩
      obtain ⟨z, hz⟩ : ∃ z : Int, z = (p.w : Int) := ⟨_, rfl⟩
      rw [← hx] at p1; rw [← hy] at p2; rw [← hz] at p3
      have HX := Lib.hid hx; have HY := Lib.hid hy; have HZ := Lib.hid hz
      have hyz : 0 ≤ y ∧ 0 ≤ z ∧ y + z ≤ 1099511627776 := by omega
      obtain ⟨hy0, hz0', hyz1⟩ := hyz
      obtain ⟨wp, hwp⟩ : ∃ wp, wp = wr.alloc (.cells #[.int .i32 x, .int .i64 y, .int .i64 z] 88) := ⟨_, rfl⟩
      have HWP := Lib.hid hwp
      have HOP := Lib.hid (opens_any x wp (by rw [hwp]; exact hLr.alloc _))
      have hbp : Below wr.heap.size wr wp := by rw [hwp]; exact (Below.refl _ _).alloc (Nat.le_refl _) _
      have hPB : Blk wp wr.heap.size 88 [.int .i32 x, .int .i64 y, .int .i64 z] := by rw [hwp]; exact Blk.new wr _ _
      have HBP := Lib.hid hbp; have HPB := Lib.hid hPB; have HLR := Lib.hid hLr
      have HYZ := Lib.hid (show y + z = ((p.p + p.w : Nat) : Int) by omega)
      clear hkl hrd hbq hts htl hq1 hww hgs hgo hgl hp hEE hO1 hTl hLr hx hy hz hwp hbp hPB
      go_wp2_with fail
      rw [← HWP.out]
      have hplt : wr.heap.size < wp.heap.size := by rw [HWP.out]; simp
      have HPLT := Lib.hid hplt
      have HG0 := Lib.hid (gstep_two T O1 p)
      clear hplt
      cases hop : opP p with
      | true =>
        have hox : opn x = true := by rw [HX.out]; exact hop
        rw [hox] at HOP
        obtain ⟨O2, hO2⟩ : ∃ Z : List Pt, Z = [] := ⟨_, rfl⟩
        have HG2 := Lib.hid (HG0.out.1 O2 hO2 hop)
        have HZ := Lib.hid hO2
        clear hO2
        clear hox hop HG0
        refine HOP.out.mono ?_
        rintro e1 w1 ⟨rfl, hb1⟩
        have HB1 := Lib.hid (HBP.out.trans (hb1.mono HBP.out.size))
        have HS1' := Lib.hid (HS1.out.next HB1.out)
        have HT1 := Lib.hid (Ucd.own_below H1.out.told HB1.out)
        have HPT1 := Lib.hid (Ucd.own_below H1.out.pts HB1.out)
        have HPB1 := Lib.hid (HPB.out.below hb1 HPLT.out)
        have HL1 := Lib.hid (HLR.out.next HB1.out)
        have HC1 := Lib.hid (H1.out.chg.and_below HB1.out)
        clear hb1
        go_wp2_with fail
        refine (tell_any w.heap.size base sb db lim dc vo1 u6 (T.map sgOf) O1 a1 E w1 HL1.out HS1'.out HT1.out HC1.out.size (by have := HO1.out; omega) HTL.out).mono ?_
        rintro e2 w2 ⟨vl2, vo2, rfl, ho2, hS2, hC2, hv2, ha2⟩
        rw [← List.map_append] at ho2
        have hin : ∀ i, i < w.heap.size → (i = sb ∨ u6.ownBlock = some i) → Hers sb db vo i := fun i hi h => by
          rcases h with h | h
          · exact .inl h
          · have := (H1.out.told.lt i h).1; omega
        have HC2 := Lib.hid (HC1.out.trans hC2 hin)
        have hpb : ¬ (wr.heap.size = sb ∨ u6.ownBlock = some wr.heap.size) := fun h => by
          rcases h with h | h
          · have := HS1.out.blk.lt; omega
          · have := (H1.out.told.lt _ h).2; omega
        have HPB2 := Lib.hid (blk_keep HPB1.out hC2 hpb)
        have HP2 := Lib.hid (Norm.own_keep HPT1.out hC2 (fun g hg h => by
          rcases h with h | h
          · exact own_ne HPT1.out HS1'.out.blk (by decide) (h ▸ hg)
          · exact own_apart HPT1.out HT1.out (by decide) g hg h))
        have HL2 := Lib.hid (HL.out.below (HC2.out.below hb HLOW.out) hg)
        have HV2 := Lib.hid (show ∀ g, vo2.ownBlock = some g → w.heap.size ≤ g ∨ vo.ownBlock = some g from fun g h => H1.out.org g (hv2 ▸ h))
        have HF2 := Lib.hid (show flen O2 + 3 ≤ 1073741824 by rw [HZ.out]; show 0 + 3 ≤ _; omega)
        have HT2 := Lib.hid ho2
        rw [← HZ.out] at hS2
        have HS2 := Lib.hid hS2
        clear ho2 hS2 hC2 hv2 ha2 hin hpb HB1 HS1' HT1 HPT1 HPB1 HL1 HC1 HS1 HO1
        generalize T ++ shut ([], O1) = T2 at *
        obtain ⟨A2, ca2, rfl, _⟩ := own_form HS2.out.own
        have HOW := Lib.hid HS2.out.own
        have HD := Lib.hid (decompose_any x)
        have h3 := full_three x
        have HFR := Lib.hid (show fulls (runs (O2 ++ [p])) = fulls (runs O2) ++ fullF x by rw [runs_append, fulls_append, HX.out]; simp [runs, fulls])
        have hfl : (fulls (runs O2)).length + 3 ≤ 1073741824 := HF2.out
        obtain ⟨F2, hF2⟩ : ∃ F2, F2 = fulls (runs O2) := ⟨_, rfl⟩
        have c2 : w2.cell? ⟨sb, 2, none⟩ = some (.slice A2 (fulls (runs O2)).length ca2) := HS2.out.blk.cell 2
        have c20 : w2.cell? ⟨wr.heap.size, 0, none⟩ = some (.int .i32 x) := HPB2.out.cell 0
        rw [← hF2] at HOW HFR hfl c2
        obtain ⟨f2, hf2⟩ : ∃ f2, f2 = F2.length := ⟨_, rfl⟩
        rw [← hf2] at HOW hfl c2
        have hs2 := HS2.out
        have hv2 := HV2.out
        rw [← hF2, ← hf2] at hs2 hv2
        clear HS2 HV2
        have HS2 := Lib.hid hs2
        have HV2 := Lib.hid hv2
        have HF2L := Lib.hid hf2
        clear hs2 hv2
        obtain ⟨D, hDD⟩ : ∃ D, D = fullF x := ⟨_, rfl⟩
        rw [← hDD] at HFR h3
        have HDD := Lib.hid hDD
        have hsbp : sb ≠ wr.heap.size := blk_apart HS2.out.blk HPB2.out (by decide)
        have HSBP := Lib.hid hsbp
        clear hF2 hf2 hDD hsbp
        go_wp2_with fail
        go_region_law (first
          | (refine step_append_rd rfl (.tmp 25) (.tmp 28) _ rfl base 21 i0 _ 1 4 Tryd.underlying22 hi hz0 hz1 hz2 rfl (by decide) (.slice A2 f2 ca2) f2 (nums F2) rfl HOW3.out _ A3 D.length c3 (nums D) rfl (by rw [nums_len, Nat.mul_one]) HR3.out (nums_one D) (by unfold maxLen; omega) (by omega) HSZ3.out ?_
             intro v6 w6 hown6 hgr6 hat6
             obtain ⟨A6, c6, rfl, _, _, _⟩ := own_form hown6
             have HO6 := Lib.hid hown6
             have HG6 := Lib.hid hgr6
             have HA6 := Lib.hid hat6
             have HB6 := Lib.hid (HB3.out.grown hgr6 (fun h => HNE.out h.symm))
             have c2 := HB6.out.cell 2
             have f26 := HB6.out.frozen 2
             have HPB6 := Lib.hid (HPB3.out.grown hgr6 (fun h => HNP.out h.symm))
             have HA7 := Lib.hid (show ∀ g, (Value.slice A6 (f2 + D.length) c6).ownBlock = some g → w2.heap.size ≤ g ∨ (Value.slice A2 f2 ca2).ownBlock = some g from fun g hg => by
               rcases hat6 with h | h
               · exact .inr (h ▸ hg)
               · left; rw [h] at hg; injection hg with hg; have := HB23.out.size; simp at this; omega)
             have HC6 := Lib.hid ((((Chg.refl w2 (Two sb (.slice A2 f2 ca2))).and_below (Below.refl _ _).drew).and_below HB23.out).grown hgr6 (fun i _ h => .inr h))
             simp only [scs, List.getElem?_cons_succ, List.getElem?_cons_zero] at c2
             clear hown6 hgr6 hat6)
          | (go_simp
             go_at_call 44
             refine (HD.out w2.drew HL2.out.drew).mono ?_
             rintro e3 w3 ⟨v3, rfl, ho3, hb3⟩
             rw [← HDD.out] at ho3
             have HB23 := Lib.hid hb3
             have HS3 := Lib.hid (HS2.out.next ((Below.refl _ _).drew.trans (hb3.mono (Nat.le_refl _))))
             have HB3 := Lib.hid HS3.out.blk
             have hne3 := HS3.out.ne
             have HNE := Lib.hid hne3
             have HPB3 := Lib.hid (Blk.below (w := w2.drew) HPB2.out hb3 HPB2.out.lt)
             have HOW3 := Lib.hid (Ucd.own_below HOW.out.drew hb3)
             obtain ⟨A3, c3, rfl, _, _, hr3⟩ := own_form ho3
             have HR3 := Lib.hid hr3
             have HNP := Lib.hid (own_ne HOW3.out HPB3.out (by decide))
             have HSZ3 := Lib.hid (show base ≤ w3.heap.size from Nat.le_trans (Nat.le_trans hb HC2.out.size) hb3.size)
             have c2 : w3.cell? ⟨sb, 2, none⟩ = some (.slice A2 f2 ca2) := by have := HS3.out.blk.cell 2; simp only [scs, List.getElem?_cons_succ, List.getElem?_cons_zero] at this; exact this
             have c20 : w3.cell? ⟨wr.heap.size, 0, none⟩ = some (.int .i32 x) := (Blk.below (w := w2.drew) HPB2.out hb3 HPB2.out.lt).cell 0
             clear ho3 hr3 hb3 hne3))
        all_goals
          have hB7 := HB6.out.set_ 2 (.slice A6 (f2 + D.length) c6)
          have hP7 : Blk (w6.setCell ⟨sb, 2, none⟩ (.slice A6 (f2 + D.length) c6)) wr.heap.size 88 [.int .i32 x, .int .i64 y, .int .i64 z] := HPB6.out.far (fun h => HSBP.out h.symm) _
          have hO7 := own_set HO6.out (own_ne HO6.out HB6.out (by decide)) (o := 2) (.slice A6 (f2 + D.length) c6)
          have hC7 : Chg w2 (w6.setCell ⟨sb, 2, none⟩ (.slice A6 (f2 + D.length) c6)) (Two sb (.slice A2 f2 ca2)) := HC6.out.setCell (p := ⟨sb, 2, none⟩) _ (.inl rfl)
          have HN7 := Lib.hid (show f2 + D.length = (F2 ++ D).length by rw [List.length_append, HF2L.out])
          have hN7b : f2 + D.length ≤ 1073741824 := by omega
          obtain ⟨u7, hu7⟩ : ∃ u7, u7 = w6.setCell ⟨sb, 2, none⟩ (.slice A6 (f2 + D.length) c6) := ⟨_, rfl⟩
          rw [← hu7] at hB7 hP7 hO7 hC7 ⊢
          rw [← nums_append] at hO7
          have HA8 := HA7
          clear c2 f26 hu7 HB6 HPB6 HO6 HC6 HA7 HA6 HG6 HOW3 HS3 HB3 HNE HR3 HB23 HSZ3 HPB3 HNP c20
          generalize f2 + D.length = N7 at *
          have c0 := hB7.cell 0
          have c2 := hB7.cell 2
          have c4 := hB7.cell 4
          have f4 := hB7.frozen 4
          have d1 := hP7.cell 1
          have d2 := hP7.cell 2
          simp only [scs, List.getElem?_cons_succ, List.getElem?_cons_zero, List.set_cons_zero, List.set_cons_succ] at c0 c2 c4 d1 d2
          have HB7 := Lib.hid hB7
          have HO7 := Lib.hid hO7
          have HC7 := Lib.hid hC7
          clear hB7 hO7 hC7 hP7
          by_cases hbig : lim < N7
          · have hd : decide (lim < N7) = true := decide_eq_true hbig
            go_wp2_with fail
            go_quiet (fail)
            have hB9 := (HB7.out.set_ 4 (.int .i64 (y + z))).drewN nq
            have e9 : ((scs (lim : Int) (.pointer (some ⟨db, 0, none⟩)) (.slice A2 f2 ca2) E E 0).set 2 (.slice A6 N7 c6)).set 4 (.int .i64 (y + z)) = scs lim (.pointer (some ⟨db, 0, none⟩)) (.slice A6 N7 c6) E (p.p + p.w) 0 := by rw [HYZ.out]; rfl
            rw [e9] at hB9
            have HB9 := Lib.hid hB9
            have HC9 := Lib.hid ((HC7.out.setCell (p := ⟨sb, 4, none⟩) (.int .i64 (y + z)) (.inl rfl)).and_below (below_drewN (Below.refl _ _) nq))
            have HGO := Lib.hid (go_big HGS.out HG2.out (show N7 = flen (O2 ++ [p]) by rw [flen, HFR.out, HN7.out]) hbig)
            clear hB9 e9 hbig hd c0 c2 c4 f4 d1 d2
            go_wp2_with fail
            refine (stop_any sb lim 0 6 _ _ E (p.p + p.w) _ HB9.out).mono ?_
            rintro e9 w9 ⟨rfl, hD9, hC9⟩
            have HC10 := Lib.hid (HC9.out.trans hC9 (fun i _ h => .inl h))
            have HD9 := Lib.hid hD9
            clear hD9 hC9 HC9 HB9
            go_wp2_with fail
            go_ret2
            exact ⟨vl2, T2, O2 ++ [p], true, HGO.out, rfl, told_step HT2.out HS2.out HC10.out, chg_step HC2.out HV2.out HC10.out, (fun h => by cases h), fun _ => HD9.out⟩
          · have hd : decide (lim < N7) = false := decide_eq_false hbig
            go_wp2_with fail
            go_quiet (fail)
            have hB9 := (HB7.out.set_ 4 (.int .i64 (y + z))).drewN nq
            have e9 : ((scs (lim : Int) (.pointer (some ⟨db, 0, none⟩)) (.slice A2 f2 ca2) E E 0).set 2 (.slice A6 N7 c6)).set 4 (.int .i64 (y + z)) = scs lim (.pointer (some ⟨db, 0, none⟩)) (.slice A6 N7 c6) E (p.p + p.w) 0 := by rw [HYZ.out]; rfl
            rw [e9] at hB9
            have HB9 := Lib.hid hB9
            have HC9 := Lib.hid ((HC7.out.setCell (p := ⟨sb, 4, none⟩) (.int .i64 (y + z)) (.inl rfl)).and_below (below_drewN (Below.refl _ _) nq))
            have HO9 := Lib.hid (Ucd.own_below (own_set HO7.out (own_ne HO7.out HB7.out (by decide)) (o := 4) (.int .i64 (y + z))) (below_drewN (Below.refl _ _) nq))
            have HGO := Lib.hid (go_small HGS.out HG2.out (show N7 = flen (O2 ++ [p]) by rw [flen, HFR.out, HN7.out]) hbig)
            clear hB9 e9 hbig hd c0 c2 c4 f4 d1 d2
            go_wp2_with fail
            go_roundw
            case rel =>
              refine ⟨k + 1, T2, O2 ++ [p], .slice A6 N7 c6, E, by omega, by go_num, Lib.hid ⟨HGO.out, told_step HT2.out HS2.out HC9.out, ?_, chg_step HC2.out HV2.out HC9.out, org_step HC2.out.size HV2.out HA8.out, pts_step HP2.out HS2.out HC9.out⟩⟩
              have hsm := sm_step HS2.out HC9.out HQ1.out HN7.out HFR.out HB9.out HO9.out
              have e5 : e + ww (ps.take (k + 1)) = E + p.w := by rw [HTS.out, ww_append, ww_cons, ww_nil, HEE.out]; omega
              rw [e5]
              exact hsm
            case measure => simp [intOf]; omega
      | false =>
        have hox : opn x = false := by rw [HX.out]; exact hop
        rw [hox] at HOP
        have HG2 := Lib.hid (HG0.out.2 hop)
        clear hox hop HG0
        refine HOP.out.mono ?_
        rintro e1 w2 ⟨rfl, hb1⟩
        have HB1 := Lib.hid (HBP.out.trans (hb1.mono HBP.out.size))
        have HS2 := Lib.hid (HS1.out.next HB1.out)
        have HT2 := Lib.hid (Ucd.own_below H1.out.told HB1.out)
        have HP2 := Lib.hid (Ucd.own_below H1.out.pts HB1.out)
        have HPB2 := Lib.hid (HPB.out.below hb1 HPLT.out)
        have HL2 := Lib.hid (HLR.out.next HB1.out)
        have HC2 := Lib.hid (H1.out.chg.and_below HB1.out)
        have HV2 := Lib.hid H1.out.org
        have HF2 := Lib.hid HO1.out
        clear hb1 HB1 HS1 HO1
        obtain ⟨A2, ca2, rfl, _⟩ := own_form HS2.out.own
        have HOW := Lib.hid HS2.out.own
        have HD := Lib.hid (decompose_any x)
        have h3 := full_three x
        have HFR := Lib.hid (show fulls (runs (O1 ++ [p])) = fulls (runs O1) ++ fullF x by rw [runs_append, fulls_append, HX.out]; simp [runs, fulls])
        have hfl : (fulls (runs O1)).length + 3 ≤ 1073741824 := HF2.out
        obtain ⟨F2, hF2⟩ : ∃ F2, F2 = fulls (runs O1) := ⟨_, rfl⟩
        have c2 : w2.cell? ⟨sb, 2, none⟩ = some (.slice A2 (fulls (runs O1)).length ca2) := HS2.out.blk.cell 2
        have c20 : w2.cell? ⟨wr.heap.size, 0, none⟩ = some (.int .i32 x) := HPB2.out.cell 0
        rw [← hF2] at HOW HFR hfl c2
        obtain ⟨f2, hf2⟩ : ∃ f2, f2 = F2.length := ⟨_, rfl⟩
        rw [← hf2] at HOW hfl c2
        have hs2 := HS2.out
        have hv2 := HV2.out
        rw [← hF2, ← hf2] at hs2 hv2
        clear HS2 HV2
        have HS2 := Lib.hid hs2
        have HV2 := Lib.hid hv2
        have HF2L := Lib.hid hf2
        clear hs2 hv2
        obtain ⟨D, hDD⟩ : ∃ D, D = fullF x := ⟨_, rfl⟩
        rw [← hDD] at HFR h3
        have HDD := Lib.hid hDD
        have hsbp : sb ≠ wr.heap.size := blk_apart HS2.out.blk HPB2.out (by decide)
        have HSBP := Lib.hid hsbp
        clear hF2 hf2 hDD hsbp
        go_wp2_with fail
        go_region_law (first
          | (refine step_append_rd rfl (.tmp 25) (.tmp 28) _ rfl base 21 i0 _ 1 4 Tryd.underlying22 hi hz0 hz1 hz2 rfl (by decide) (.slice A2 f2 ca2) f2 (nums F2) rfl HOW3.out _ A3 D.length c3 (nums D) rfl (by rw [nums_len, Nat.mul_one]) HR3.out (nums_one D) (by unfold maxLen; omega) (by omega) HSZ3.out ?_
             intro v6 w6 hown6 hgr6 hat6
             obtain ⟨A6, c6, rfl, _, _, _⟩ := own_form hown6
             have HO6 := Lib.hid hown6
             have HG6 := Lib.hid hgr6
             have HA6 := Lib.hid hat6
             have HB6 := Lib.hid (HB3.out.grown hgr6 (fun h => HNE.out h.symm))
             have c2 := HB6.out.cell 2
             have f26 := HB6.out.frozen 2
             have HPB6 := Lib.hid (HPB3.out.grown hgr6 (fun h => HNP.out h.symm))
             have HA7 := Lib.hid (show ∀ g, (Value.slice A6 (f2 + D.length) c6).ownBlock = some g → w2.heap.size ≤ g ∨ (Value.slice A2 f2 ca2).ownBlock = some g from fun g hg => by
               rcases hat6 with h | h
               · exact .inr (h ▸ hg)
               · left; rw [h] at hg; injection hg with hg; have := HB23.out.size; simp at this; omega)
             have HC6 := Lib.hid ((((Chg.refl w2 (Two sb (.slice A2 f2 ca2))).and_below (Below.refl _ _).drew).and_below HB23.out).grown hgr6 (fun i _ h => .inr h))
             simp only [scs, List.getElem?_cons_succ, List.getElem?_cons_zero] at c2
             clear hown6 hgr6 hat6)
          | (go_simp
             go_at_call 44
             refine (HD.out w2.drew HL2.out.drew).mono ?_
             rintro e3 w3 ⟨v3, rfl, ho3, hb3⟩
             rw [← HDD.out] at ho3
             have HB23 := Lib.hid hb3
             have HS3 := Lib.hid (HS2.out.next ((Below.refl _ _).drew.trans (hb3.mono (Nat.le_refl _))))
             have HB3 := Lib.hid HS3.out.blk
             have hne3 := HS3.out.ne
             have HNE := Lib.hid hne3
             have HPB3 := Lib.hid (Blk.below (w := w2.drew) HPB2.out hb3 HPB2.out.lt)
             have HOW3 := Lib.hid (Ucd.own_below HOW.out.drew hb3)
             obtain ⟨A3, c3, rfl, _, _, hr3⟩ := own_form ho3
             have HR3 := Lib.hid hr3
             have HNP := Lib.hid (own_ne HOW3.out HPB3.out (by decide))
             have HSZ3 := Lib.hid (show base ≤ w3.heap.size from Nat.le_trans (Nat.le_trans hb HC2.out.size) hb3.size)
             have c2 : w3.cell? ⟨sb, 2, none⟩ = some (.slice A2 f2 ca2) := by have := HS3.out.blk.cell 2; simp only [scs, List.getElem?_cons_succ, List.getElem?_cons_zero] at this; exact this
             have c20 : w3.cell? ⟨wr.heap.size, 0, none⟩ = some (.int .i32 x) := (Blk.below (w := w2.drew) HPB2.out hb3 HPB2.out.lt).cell 0
             clear ho3 hr3 hb3 hne3))
        all_goals
          have hB7 := HB6.out.set_ 2 (.slice A6 (f2 + D.length) c6)
          have hP7 : Blk (w6.setCell ⟨sb, 2, none⟩ (.slice A6 (f2 + D.length) c6)) wr.heap.size 88 [.int .i32 x, .int .i64 y, .int .i64 z] := HPB6.out.far (fun h => HSBP.out h.symm) _
          have hO7 := own_set HO6.out (own_ne HO6.out HB6.out (by decide)) (o := 2) (.slice A6 (f2 + D.length) c6)
          have hC7 : Chg w2 (w6.setCell ⟨sb, 2, none⟩ (.slice A6 (f2 + D.length) c6)) (Two sb (.slice A2 f2 ca2)) := HC6.out.setCell (p := ⟨sb, 2, none⟩) _ (.inl rfl)
          have HN7 := Lib.hid (show f2 + D.length = (F2 ++ D).length by rw [List.length_append, HF2L.out])
          have hN7b : f2 + D.length ≤ 1073741824 := by omega
          obtain ⟨u7, hu7⟩ : ∃ u7, u7 = w6.setCell ⟨sb, 2, none⟩ (.slice A6 (f2 + D.length) c6) := ⟨_, rfl⟩
          rw [← hu7] at hB7 hP7 hO7 hC7 ⊢
          rw [← nums_append] at hO7
          have HA8 := HA7
          clear c2 f26 hu7 HB6 HPB6 HO6 HC6 HA7 HA6 HG6 HOW3 HS3 HB3 HNE HR3 HB23 HSZ3 HPB3 HNP c20
          generalize f2 + D.length = N7 at *
          have c0 := hB7.cell 0
          have c2 := hB7.cell 2
          have c4 := hB7.cell 4
          have f4 := hB7.frozen 4
          have d1 := hP7.cell 1
          have d2 := hP7.cell 2
          simp only [scs, List.getElem?_cons_succ, List.getElem?_cons_zero, List.set_cons_zero, List.set_cons_succ] at c0 c2 c4 d1 d2
          have HB7 := Lib.hid hB7
          have HO7 := Lib.hid hO7
          have HC7 := Lib.hid hC7
          clear hB7 hO7 hC7 hP7
          by_cases hbig : lim < N7
          · have hd : decide (lim < N7) = true := decide_eq_true hbig
            go_wp2_with fail
            go_quiet (fail)
            have hB9 := (HB7.out.set_ 4 (.int .i64 (y + z))).drewN nq
            have e9 : ((scs (lim : Int) (.pointer (some ⟨db, 0, none⟩)) (.slice A2 f2 ca2) a1 E 0).set 2 (.slice A6 N7 c6)).set 4 (.int .i64 (y + z)) = scs lim (.pointer (some ⟨db, 0, none⟩)) (.slice A6 N7 c6) a1 (p.p + p.w) 0 := by rw [HYZ.out]; rfl
            rw [e9] at hB9
            have HB9 := Lib.hid hB9
            have HC9 := Lib.hid ((HC7.out.setCell (p := ⟨sb, 4, none⟩) (.int .i64 (y + z)) (.inl rfl)).and_below (below_drewN (Below.refl _ _) nq))
            have HGO := Lib.hid (go_big HGS.out HG2.out (show N7 = flen (O1 ++ [p]) by rw [flen, HFR.out, HN7.out]) hbig)
            clear hB9 e9 hbig hd c0 c2 c4 f4 d1 d2
            go_wp2_with fail
            refine (stop_any sb lim 0 6 _ _ a1 (p.p + p.w) _ HB9.out).mono ?_
            rintro e9 w9 ⟨rfl, hD9, hC9⟩
            have HC10 := Lib.hid (HC9.out.trans hC9 (fun i _ h => .inl h))
            have HD9 := Lib.hid hD9
            clear hD9 hC9 HC9 HB9
            go_wp2_with fail
            go_ret2
            exact ⟨u6, T, O1 ++ [p], true, HGO.out, rfl, told_step HT2.out HS2.out HC10.out, chg_step HC2.out HV2.out HC10.out, (fun h => by cases h), fun _ => HD9.out⟩
          · have hd : decide (lim < N7) = false := decide_eq_false hbig
            go_wp2_with fail
            go_quiet (fail)
            have hB9 := (HB7.out.set_ 4 (.int .i64 (y + z))).drewN nq
            have e9 : ((scs (lim : Int) (.pointer (some ⟨db, 0, none⟩)) (.slice A2 f2 ca2) a1 E 0).set 2 (.slice A6 N7 c6)).set 4 (.int .i64 (y + z)) = scs lim (.pointer (some ⟨db, 0, none⟩)) (.slice A6 N7 c6) a1 (p.p + p.w) 0 := by rw [HYZ.out]; rfl
            rw [e9] at hB9
            have HB9 := Lib.hid hB9
            have HC9 := Lib.hid ((HC7.out.setCell (p := ⟨sb, 4, none⟩) (.int .i64 (y + z)) (.inl rfl)).and_below (below_drewN (Below.refl _ _) nq))
            have HO9 := Lib.hid (Ucd.own_below (own_set HO7.out (own_ne HO7.out HB7.out (by decide)) (o := 4) (.int .i64 (y + z))) (below_drewN (Below.refl _ _) nq))
            have HGO := Lib.hid (go_small HGS.out HG2.out (show N7 = flen (O1 ++ [p]) by rw [flen, HFR.out, HN7.out]) hbig)
            clear hB9 e9 hbig hd c0 c2 c4 f4 d1 d2
            go_wp2_with fail
            go_roundw
            case rel =>
              refine ⟨k + 1, T, O1 ++ [p], .slice A6 N7 c6, a1, by omega, by go_num, Lib.hid ⟨HGO.out, told_step HT2.out HS2.out HC9.out, ?_, chg_step HC2.out HV2.out HC9.out, org_step HC2.out.size HV2.out HA8.out, pts_step HP2.out HS2.out HC9.out⟩⟩
              have hsm := sm_step HS2.out HC9.out HQ1.out HN7.out HFR.out HB9.out HO9.out
              have e5 : e + ww (ps.take (k + 1)) = E + p.w := by rw [HTS.out, ww_append, ww_cons, ww_nil, HEE.out]; omega
              rw [e5]
              exact hsm
            case measure => simp [intOf]; omega
    · obtain rfl : k = m := by omega
      have HXT := Lib.hid (show ps.take k = ps by rw [← HM.out]; exact List.take_length)
      go_wp2_with fail
      go_ret2
      have h := H1.out
      have hgo := h.go
      have hsm := h.sm
      rw [HXT.out] at hgo hsm
      exact ⟨_, T, O1, false, hgo, rfl, h.told, h.chg, fun _ => ⟨vo1, a1, hsm, h.org⟩, (fun h => by cases h)⟩
end Go.Proofs.YtbljomfofgocaaaDoor.Seg
