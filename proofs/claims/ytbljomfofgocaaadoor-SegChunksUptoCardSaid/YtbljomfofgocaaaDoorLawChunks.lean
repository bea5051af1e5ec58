/-
  A CONTRACT OF THE DOCUMENT's Sure: what is told when these bytes have come and more may.
-/
import Derived.Test.YtbljomfofgocaaaDoorSegDoc
import Derived.Test.YtbljomfofgocaaaDoorNormOpens
import Derived.Test.YtbljomfofgocaaaDoorSegFixed
namespace Go.Proofs.YtbljomfofgocaaaDoor.Seg
open Go.Shelf Go.RowKit Go.Sort
open Utf hiding infoI32 rd_new own_form rdec_any below_drewN new_any write_any close_any
open Ucd hiding grow same Told
open Norm hiding new_any write_any close_any pending_any pending_nil write_nil write_closed close_nil
set_option maxRecDepth 100000

/-- the segments that are told, the error, the length of the open one -/
def suS (lim : Nat) (l : List UInt8) : List (List Pt) := if badG flen lim (grp (dec true 0 l)) then okG flen lim (grp (dec true 0 l)) else (grp (dec true 0 l)).dropLast
def suE (lim : Nat) (l : List UInt8) : Int := if badG flen lim (grp (dec true 0 l)) then 6 else 0
def suN (lim : Nat) (l : List UInt8) : Nat := if badG flen lim (grp (dec true 0 l)) then 0 else flen ((grp (dec true 0 l)).getLast?.getD [])
def Sures (w : World) (lim : Nat) (l : List UInt8) (e : Ending) (w' : World) : Prop :=
  ∃ A n c, e = .returned (.tuple #[.slice A n c, .int .i64 (suE lim l), .int .i64 (suN lim l)]) ∧ n = (suS lim l).length ∧ Rd w' w'.heap.size A (sgs ((suS lim l).map sgOf)) ∧ Below w.heap.size w w'
theorem sgs_take_map (G : List (List Pt)) (t : Nat) : (G.map sgOf).take t = (G.take t).map sgOf := List.map_take.symm
set_option maxHeartbeats 8000000 in
theorem rsure_any (lim : Nat) (l : List UInt8) (A : Option Addr) (m c : Nat) (w : World)
    (hr : Rd w w.heap.size A (bys l)) (hm : l.length = m) (hsm : m ≤ 134217728) :
    Calls Tryd.prog 12 #[.slice A m c, .int .i64 lim] w (Sures w lim l) := by
  have HD := Lib.hid (Utf.rdec_any A l m c true w hr hm (by omega))
  have hdl := dec_len_le true l 0
  rw [hm] at hdl
  have hde := dec_ends true l
  rw [hm] at hde
  have HDE := Lib.hid hde
  have hgl := grp_len true l
  rw [hm] at hgl
  have HGS := Lib.hid (fun g (hg : g ∈ grp (dec true 0 l)) => show g.length ≤ 1073741824 by have := grp_size true l hg; omega)
  have HGE := Lib.hid (show ∃ G, G = grp (dec true 0 l) from ⟨_, rfl⟩)
  obtain ⟨G, hG⟩ := HGE.out
  have HSS := Lib.hid (show suS lim l = if badG flen lim G then okG flen lim G else G.dropLast by rw [hG]; rfl)
  have HSE := Lib.hid (show suE lim l = if badG flen lim G then 6 else 0 by rw [hG]; rfl)
  have HSN := Lib.hid (show suN lim l = if badG flen lim G then 0 else flen (G.getLast?.getD []) by rw [hG]; rfl)
  have HGE2 := Lib.hid hG
  rw [← hG] at hgl HGS
  obtain ⟨gl, hgl2⟩ : ∃ gl, gl = G.length := ⟨_, rfl⟩
  rw [← hgl2] at hgl
  have HGL := Lib.hid hgl2
  obtain ⟨ps, hps⟩ : ∃ ps, ps = dec true 0 l := ⟨_, rfl⟩
  rw [← hps] at HD hdl HDE hG
  obtain ⟨pn, hpn⟩ : ∃ pn, pn = ps.length := ⟨_, rfl⟩
  rw [← hpn] at hdl
  have HPN := Lib.hid hpn
  have HG := Lib.hid hG
  clear hr hm hde hgl2 hpn hps hG HGE
  go_enter Tryd.func12, Tryd.ntmps12
  go_wp2_with fail
  refine HD.out.mono ?_
  rintro e1 w1 ⟨v, rfl, ho, hb1⟩
  obtain ⟨A1, c1, rfl, _, _, hr1⟩ := Utf.own_form ho
  rw [← HPN.out] at ho ⊢
  have HR1 := Lib.hid hr1
  have HB1 := Lib.hid hb1
  clear ho hr1 hb1 HD
  go_wp2_with fail
  refine (rcut_any A1 ps pn c1 w1 HR1.out HPN.out.symm (by omega) (fun q hq => by have := HDE.out q hq; omega)).mono ?_
  rintro e2 w2 ⟨v2, rfl, ho2, hb2⟩
  rw [← HG.out, List.length_map, ← HGL.out] at ho2
  obtain ⟨A2, c2, rfl, hc2, hcm2, hr2⟩ := own_form ho2
  have HR2 := Lib.hid hr2
  have HB2' := Lib.hid (HB1.out.trans (hb2.mono HB1.out.size))
  have HGD := Lib.hid (good_any A2 G lim gl c2 w2 HR2.out HGL.out.symm hc2 hcm2 HGS.out)
  clear ho2 hr2 hb2
  go_wp2_with fail
  refine HGD.out.mono ?_
  rintro e3 w3 ⟨A3, n3, c3, rfl, hn3, hr3, _, _, hb3⟩
  have HN3 := Lib.hid hn3
  have HR3 := Lib.hid hr3
  have HB2 := Lib.hid (HB2'.out.trans (hb3.mono HB2'.out.size))
  have HR4 := Lib.hid ((HR2.out.below hb3).more hb3.size)
  clear hn3 hr3 hb3 HGD HR2 HB2'
  cases hbb : badG flen lim G with
  | true =>
    have HBB := Lib.hid hbb
    clear hbb
    go_wp2_with fail
    go_ret3
    refine ⟨A3, n3, c3, by rw [HSE.out, HSN.out, HBB.out]; rfl, ?_, ?_, HB2.out⟩
    · rw [HSS.out, HBB.out]; exact HN3.out
    · rw [HSS.out, HBB.out]; exact HR3.out
  | false =>
    have HBB := Lib.hid hbb
    clear hbb
    by_cases hz : gl = 0
    · subst hz
      have HGN := Lib.hid (show G = [] from List.eq_nil_of_length_eq_zero HGL.out.symm)
      go_wp2_with fail
      go_ret3
      refine ⟨none, 0, 0, by rw [HSE.out, HSN.out, HBB.out, HGN.out]; rfl, ?_, ?_, HB2.out⟩
      · rw [HSS.out, HBB.out, HGN.out]; rfl
      · rw [HSS.out, HBB.out, HGN.out]; exact Rd.empty _ _ _
    · obtain ⟨t, rfl⟩ : ∃ t, gl = t + 1 := ⟨gl - 1, by omega⟩
      have htl : t < G.length := by rw [← HGL.out]; omega
      have htm : t < (G.map sgOf).length := by rw [List.length_map]; exact htl
      obtain ⟨b, o, rfl, hbl⟩ := HR4.out.form (by rw [sgs_len, List.length_map, ← HGL.out]; omega)
      obtain ⟨p1, p2, p3⟩ := Rd_sg HR4.out htm
      rw [List.getElem_map] at p1 p2 p3
      have HLG := Lib.hid (show G.getLast?.getD [] = G[t] by
        rw [List.getLast?_eq_getElem?, ← HGL.out, Nat.add_sub_cancel, List.getElem?_eq_getElem htl]; rfl)
      have HDL := Lib.hid (show G.dropLast = G.take t by rw [List.dropLast_eq_take, ← HGL.out, Nat.add_sub_cancel])
      have hgz := HGS.out G[t] (List.getElem_mem htl)
      obtain ⟨g, hg⟩ : ∃ g, g = G[t] := ⟨_, rfl⟩
      rw [← hg] at p1 p2 p3 hgz HLG
      change w3.cell? ⟨b, o + t * 3, none⟩ = some (.string (says g)) at p1
      change w3.cell? ⟨b, o + t * 3 + 1, none⟩ = some (.int .i64 (beg g)) at p2
      change w3.cell? ⟨b, o + t * 3 + 2, none⟩ = some (.int .i64 (fin g)) at p3
      have HLN := Lib.hid (fun u => length_at g (beg g) (fin g) u hgz)
      obtain ⟨A4, hsl, hr4⟩ := seg_to (t := t) HR4.out (show t ≤ t + 1 by omega) hc2
      rw [sgs_take_map] at hr4
      have HRT := Lib.hid hr4
      generalize says g = sg at *
      obtain ⟨y, hy⟩ : ∃ y : Int, y = (beg g : Int) := ⟨_, rfl⟩
      obtain ⟨z, hzz⟩ : ∃ z : Int, z = (fin g : Int) := ⟨_, rfl⟩
      rw [← hy] at p2 HLN
      rw [← hzz] at p3 HLN
      obtain ⟨f, hf⟩ : ∃ f, f = flen g := ⟨_, rfl⟩
      rw [← hf] at HLN
      have HF := Lib.hid hf
      have hw1 : IntKind.i64.wrap (t : Int) = (t : Int) := IntWalk.i64_in _ (by omega)
      have hw2 : IntKind.i64.wrap ((t : Int) + 1 - 1) = (t : Int) := by rw [Int.add_sub_cancel]; exact hw1
      have hlt : (t : Int) < (t : Int) + 1 := by omega
      have hltn : t < t + 1 := by omega
      have hge : (0 : Int) ≤ (t : Int) := by omega
      have hne : ((t : Int) + 1 == 0) = false := by simp; omega
      have hbs : b < w3.heap.size := hbl
      have HSW := Lib.hid (show ∀ u : World, Below w3.heap.size w3 u → u.cell? ⟨b, o + t * 3, none⟩ = some (.string sg) ∧ u.cell? ⟨b, o + t * 3 + 1, none⟩ = some (.int .i64 y) ∧ u.cell? ⟨b, o + t * 3 + 2, none⟩ = some (.int .i64 z) from fun u hu =>
        ⟨(hu.cell (p := ⟨b, o + t * 3, none⟩) hbs).trans p1, (hu.cell (p := ⟨b, o + t * 3 + 1, none⟩) hbs).trans p2, (hu.cell (p := ⟨b, o + t * 3 + 2, none⟩) hbs).trans p3⟩)
      clear htl htm hg hgz hy hzz hf hr4 hbl hz
      go_wp2_with fail
      refine wp_region_held_drew (S := fun u => u.cell? ⟨b, o + t * 3, none⟩ = some (.string sg) ∧ u.cell? ⟨b, o + t * 3 + 1, none⟩ = some (.int .i64 y) ∧ u.cell? ⟨b, o + t * 3 + 2, none⟩ = some (.int .i64 z)) (by kernel_rfl) ⟨p1, p2, p3⟩ (fun hHeld => ?_)
      refine wpAnyH_take (i := 0) (oi := _) (v := ?_) rfl (by kernel_rfl) (by kernel_rfl) (by kernel_rfl) (fun _ _ _ h => h) (Or.inl ⟨by rfl, ?_⟩) (by assumption) ?_
      rotate_left
      · (intro w hSw; (try dsimp only at hSw); (try obtain ⟨s1_, s2_, s3_⟩ := hSw); go_simp <;> with_reducible rfl)
      simp only [List.getElem_toArray, List.getElem_cons_zero, Act.put, List.setIfInBounds_toArray, List.set_cons_zero, List.set_cons_succ]
      refine wpAnyH_take (i := 1) (oi := _) (v := ?_) rfl (by kernel_rfl) (by kernel_rfl) (by kernel_rfl) (fun _ _ _ h => h) (Or.inl ⟨by rfl, ?_⟩) (by assumption) ?_
      rotate_left
      · (intro w hSw; (try dsimp only at hSw); (try obtain ⟨s1_, s2_, s3_⟩ := hSw); go_simp <;> with_reducible rfl)
      simp only [List.getElem_toArray, List.getElem_cons_succ, List.getElem_cons_zero, Act.put, List.setIfInBounds_toArray, List.set_cons_zero, List.set_cons_succ]
      refine wpAnyH_take (i := 2) (oi := _) (v := ?_) rfl (by kernel_rfl) (by kernel_rfl) (by kernel_rfl) (fun _ _ _ h => h) (Or.inl ⟨by rfl, ?_⟩) (by assumption) ?_
      rotate_left
      · (intro w hSw; (try dsimp only at hSw); (try obtain ⟨s1_, s2_, s3_⟩ := hSw); go_simp <;> with_reducible rfl)
      simp only [List.getElem_toArray, List.getElem_cons_succ, List.getElem_cons_zero, Act.put, List.setIfInBounds_toArray, List.set_cons_zero, List.set_cons_succ]
      refine wpAnyH_take (i := 3) (oi := _) (v := ?_) rfl (by kernel_rfl) (by kernel_rfl) (by kernel_rfl) (fun _ _ _ h => h) (Or.inl ⟨by rfl, ?_⟩) (by assumption) ?_
      rotate_left
      · (intro w hSw; (try dsimp only at hSw); (try obtain ⟨s1_, s2_, s3_⟩ := hSw); go_simp <;> with_reducible rfl)
      simp only [List.getElem_toArray, List.getElem_cons_succ, List.getElem_cons_zero, Act.put, List.setIfInBounds_toArray, List.set_cons_zero, List.set_cons_succ]
      refine wpAnyH_take (i := 4) (oi := _) (v := ?_) rfl (by kernel_rfl) (by kernel_rfl) (by kernel_rfl) (fun _ _ _ h => h) (Or.inl ⟨by rfl, ?_⟩) (by assumption) ?_
      rotate_left
      · (intro w hSw; (try dsimp only at hSw); (try obtain ⟨s1_, s2_, s3_⟩ := hSw); go_simp <;> with_reducible rfl)
      simp only [List.getElem_toArray, List.getElem_cons_succ, List.getElem_cons_zero, Act.put, List.setIfInBounds_toArray, List.set_cons_zero, List.set_cons_succ]
      refine wpAnyH_take (i := 5) (oi := _) (v := ?_) rfl (by kernel_rfl) (by kernel_rfl) (by kernel_rfl) (fun _ _ _ h => h) (Or.inl ⟨by rfl, ?_⟩) (by assumption) ?_
      rotate_left
      · (intro w hSw; (try dsimp only at hSw); (try obtain ⟨s1_, s2_, s3_⟩ := hSw); go_simp <;> with_reducible rfl)
      simp only [List.getElem_toArray, List.getElem_cons_succ, List.getElem_cons_zero, Act.put, List.setIfInBounds_toArray, List.set_cons_zero, List.set_cons_succ]
      refine wpAnyH_take (i := 6) (oi := _) (v := ?_) rfl (by kernel_rfl) (by kernel_rfl) (by kernel_rfl) (fun _ _ _ h => h) (Or.inl ⟨by rfl, ?_⟩) (by assumption) ?_
      rotate_left
      · (intro w hSw; (try dsimp only at hSw); (try obtain ⟨s1_, s2_, s3_⟩ := hSw); go_simp <;> with_reducible rfl)
      simp only [List.getElem_toArray, List.getElem_cons_succ, List.getElem_cons_zero, Act.put, List.setIfInBounds_toArray, List.set_cons_zero, List.set_cons_succ]
      refine wpAnyH_take (i := 7) (oi := _) (v := ?_) rfl (by kernel_rfl) (by kernel_rfl) (by kernel_rfl) (fun _ _ _ h => h) (Or.inl ⟨by rfl, ?_⟩) (by assumption) ?_
      rotate_left
      · (intro w hSw; (try dsimp only at hSw); (try obtain ⟨s1_, s2_, s3_⟩ := hSw); go_simp <;> with_reducible rfl)
      simp only [List.getElem_toArray, List.getElem_cons_succ, List.getElem_cons_zero, Act.put, List.setIfInBounds_toArray, List.set_cons_zero, List.set_cons_succ]
      refine wpAnyH_take (i := 8) (oi := _) (v := ?_) rfl (by kernel_rfl) (by kernel_rfl) (by kernel_rfl) (fun _ _ _ h => h) (Or.inl ⟨by rfl, ?_⟩) (by assumption) ?_
      rotate_left
      · (intro w hSw; (try dsimp only at hSw); (try obtain ⟨s1_, s2_, s3_⟩ := hSw); go_simp <;> with_reducible rfl)
      simp only [List.getElem_toArray, List.getElem_cons_succ, List.getElem_cons_zero, Act.put, List.setIfInBounds_toArray, List.set_cons_zero, List.set_cons_succ]
      refine wpAnyH_take (i := 9) (oi := _) (v := ?_) rfl (by kernel_rfl) (by kernel_rfl) (by kernel_rfl) (fun _ _ _ h => h) (Or.inl ⟨by rfl, ?_⟩) (by assumption) ?_
      rotate_left
      · (intro w hSw; (try dsimp only at hSw); (try obtain ⟨s1_, s2_, s3_⟩ := hSw); go_simp <;> with_reducible rfl)
      simp only [List.getElem_toArray, List.getElem_cons_succ, List.getElem_cons_zero, Act.put, List.setIfInBounds_toArray, List.set_cons_zero, List.set_cons_succ]
      refine wpAnyH_take (i := 10) (oi := _) (v := ?_) rfl (by kernel_rfl) (by kernel_rfl) (by kernel_rfl) (fun _ _ _ h => h) (Or.inl ⟨by rfl, ?_⟩) (by assumption) ?_
      rotate_left
      · (intro w hSw; (try dsimp only at hSw); (try obtain ⟨s1_, s2_, s3_⟩ := hSw); go_simp <;> with_reducible rfl)
      simp only [List.getElem_toArray, List.getElem_cons_succ, List.getElem_cons_zero, Act.put, List.setIfInBounds_toArray, List.set_cons_zero, List.set_cons_succ]
      refine wpAnyH_ready (rs := [11]) (by kernel_rfl) (by simp) (AllReadyH.cons rfl (fun K hK => ?_) AllReadyH.nil)
      go_simp
      go_at_call 39
      refine (HLN.out _).mono ?_
      rintro e5 w5 ⟨rfl, hb5⟩
      have HB5 := Lib.hid (HB2.out.trans ((Below.refl _ _).drew.trans hb5 |>.mono HB2.out.size))
      have hsw5 : w5.cell? ⟨b, o + t * 3, none⟩ = some (.string sg) ∧ w5.cell? ⟨b, o + t * 3 + 1, none⟩ = some (.int .i64 y) ∧ w5.cell? ⟨b, o + t * 3 + 2, none⟩ = some (.int .i64 z) := HSW.out w5 ((Below.refl _ _).drew.trans hb5)
      have HQ5 := Lib.hid ((Below.refl w3.heap.size w3).drew.trans hb5)
      clear hb5
      refine hK.out _ _ hsw5 (fun hHeld2 => ?_)
      clear hK K hHeld
      have hHeld := hHeld2
      clear hHeld2
      refine wpAnyH_take (i := 12) (oi := _) (v := ?_) rfl (by kernel_rfl) (by kernel_rfl) (by kernel_rfl) (fun _ _ _ h => h) (Or.inl ⟨by rfl, ?_⟩) (by assumption) ?_
      rotate_left
      · (intro w hSw; (try dsimp only at hSw); (try obtain ⟨s1_, s2_, s3_⟩ := hSw); go_simp <;> with_reducible rfl)
      simp only [List.getElem_toArray, List.getElem_cons_succ, List.getElem_cons_zero, Act.put, List.setIfInBounds_toArray, List.set_cons_zero, List.set_cons_succ]
      refine wpAnyH_take (i := 13) (oi := _) (v := ?_) rfl (by kernel_rfl) (by kernel_rfl) (by kernel_rfl) (fun _ _ _ h => h) (Or.inl ⟨by rfl, ?_⟩) (by assumption) ?_
      rotate_left
      · (intro w hSw; (try dsimp only at hSw); (try obtain ⟨s1_, s2_, s3_⟩ := hSw); go_simp <;> with_reducible rfl)
      simp only [List.getElem_toArray, List.getElem_cons_succ, List.getElem_cons_zero, Act.put, List.setIfInBounds_toArray, List.set_cons_zero, List.set_cons_succ]
      refine wpAnyH_take (i := 14) (oi := _) (v := ?_) rfl (by kernel_rfl) (by kernel_rfl) (by kernel_rfl) (fun _ _ _ h => h) (Or.inl ⟨by rfl, ?_⟩) (by assumption) ?_
      rotate_left
      · (intro w hSw; (try dsimp only at hSw); (try obtain ⟨s1_, s2_, s3_⟩ := hSw); go_simp <;> with_reducible rfl)
      simp only [List.getElem_toArray, List.getElem_cons_succ, List.getElem_cons_zero, Act.put, List.setIfInBounds_toArray, List.set_cons_zero, List.set_cons_succ]
      refine wpAnyH_done (by kernel_rfl) ?_ _
      clear p1 p2 p3 hsl hw1 hw2
      go_wp2_with fail
      go_ret3
      refine ⟨A4, t, c2, by rw [HSE.out, HSN.out, HBB.out, HLG.out, ← HF.out]; rfl, ?_, ?_, HB5.out⟩
      · rw [HSS.out, HBB.out, HDL.out]; simp [List.length_take, ← HGL.out]
      · rw [HSS.out, HBB.out, HDL.out]
        exact (HRT.out.below (HQ5.out)).more HQ5.out.size
end Go.Proofs.YtbljomfofgocaaaDoor.Seg

/-
  Whatever bytes there are, cut wherever, and whatever limit: at each moment what is told is what is whole; all together are the segments of the text; an error sticks. Conditions: the arguments hold at most 1048576 values; the package's tables are laid as the program's text lays them (tied).
-/
namespace Go.Proofs.YtbljomfofgocaaaDoor.LawSegChunks
open Go.ChangeShapes Go.WideShapes Go.ChangeAt Go.RowKit
open Utf hiding infoI32 rd_new own_form rdec_any below_drewN new_any write_any close_any
open Ucd hiding grow same Told
open Norm hiding new_any write_any close_any pending_any pending_nil write_nil write_closed close_nil fixed_any write_at close_at
open Seg

/-- where the law stands: all (the bytes Y), what was told (T), the segmenter (handed X, told U) -/
structure Cz (w : World) (G sb db lim : Nat) (Y X : List UInt8) (T U : List (List Pt)) (a t vo : Value) (wr : World) : Prop where
  all : wr.ownsRow G 5 1 a Y.length (bys Y)
  tld : wr.ownsRow G 58 3 t (T.map sgOf).length (sgs (T.map sgOf))
  lv : Live wr G sb db lim vo X U
  bel : Below w.heap.size w wr
/-- behind the segmenter's end -/
structure Cd (w : World) (G sb : Nat) (er : Int) (Y : List UInt8) (T : List (List Pt)) (a t : Value) (wr : World) : Prop where
  all : wr.ownsRow G 5 1 a Y.length (bys Y)
  tld : wr.ownsRow G 58 3 t (T.map sgOf).length (sgs (T.map sgOf))
  dn : Done wr sb er
  bel : Below w.heap.size w wr
section
variable {w wr wx : World} {G sb db lim : Nat} {er : Int} {Y X : List UInt8} {T U : List (List Pt)} {a t vo : Value}
theorem done_keep {S : Nat → Prop} (h : Done wr sb er) (hc : Chg wr wx S) (hS : ¬ S sb) : Done wx sb er := by
  obtain ⟨l, a, e, h⟩ := h
  exact ⟨l, a, e, blk_keep h hc hS⟩
theorem done_six (h : Done wr sb 6) : Calls Tryd.prog 15 #[.pointer (some ⟨sb, 0, none⟩)] wr fun e w' => e = .returned (.int .i64 6) ∧ wr = w' := by
  obtain ⟨l, a, e, h⟩ := h
  exact err_six sb wr (h.cell 5)
theorem live_err (h : Live wr G sb db lim vo X U) : Calls Tryd.prog 15 #[.pointer (some ⟨sb, 0, none⟩)] wr fun e w' => e = .returned (.int .i64 0) ∧ wr = w' := by
  obtain ⟨O, a, k0, k1, k2, _, hs, _⟩ := h
  exact err_none sb wr (hs.blk.cell 5)
theorem Cz.next (h : Cz w G sb db lim Y X T U a t vo wr) (hb : Below wr.heap.size wr wx) : Cz w G sb db lim Y X T U a t vo wx :=
  ⟨Ucd.own_below h.all hb, Ucd.own_below h.tld hb, h.lv.next hb, h.bel.trans (hb.mono h.bel.size)⟩
theorem Cd.next (h : Cd w G sb er Y T a t wr) (hb : Below wr.heap.size wr wx) : Cd w G sb er Y T a t wx :=
  ⟨Ucd.own_below h.all hb, Ucd.own_below h.tld hb, done_keep (S := fun _ => False) h.dn (Chg.of_below hb (Nat.le_refl _)) id, h.bel.trans (hb.mono h.bel.size)⟩
theorem Cz.grew_all (h : Cz w G sb db lim Y X T U a t vo wr) (hG : w.heap.size ≤ G) {Y' : List UInt8} {a' : Value} (ho : wx.ownsRow G 5 1 a' Y'.length (bys Y')) (hg : wr.grownBy wx a.ownBlock) : Cz w G sb db lim Y' X T U a' t vo wx :=
  have chg := (Chg.refl wr (fun k => a.ownBlock = some k)).grown hg (fun _ _ e => e)
  have hap := h.lv.apart h.all (by decide) (by decide) (by decide)
  ⟨ho, Norm.own_keep h.tld chg (fun k hk e => Seg.own_apart h.all h.tld (by decide) k e hk),
    h.lv.keep chg (fun e => hap sb e (.inl rfl)) (fun e => hap db e (.inr (.inl rfl))) (fun k hk e => hap k e (.inr (.inr hk))),
    h.bel.trans (chg.below (B := w.heap.size) h.bel.size (fun i hi e => by have := (h.all.lt i e).1; omega))⟩
theorem Cz.grew_told (h : Cz w G sb db lim Y X T U a t vo wr) (hG : w.heap.size ≤ G) {T' : List (List Pt)} {t' : Value} (ho : wx.ownsRow G 58 3 t' (T'.map sgOf).length (sgs (T'.map sgOf))) (hg : wr.grownBy wx t.ownBlock) : Cz w G sb db lim Y X T' U a t' vo wx :=
  have chg := (Chg.refl wr (fun k => t.ownBlock = some k)).grown hg (fun _ _ e => e)
  have hap := h.lv.apart h.tld (by decide) (by decide) (by decide)
  ⟨Norm.own_keep h.all chg (fun k hk e => Seg.own_apart h.all h.tld (by decide) k hk e), ho,
    h.lv.keep chg (fun e => hap sb e (.inl rfl)) (fun e => hap db e (.inr (.inl rfl))) (fun k hk e => hap k e (.inr (.inr hk))),
    h.bel.trans (chg.below (B := w.heap.size) h.bel.size (fun i hi e => by have := (h.tld.lt i e).1; omega))⟩
theorem Cd.grew_told (h : Cd w G sb er Y T a t wr) (hG : w.heap.size ≤ G) {T' : List (List Pt)} {t' : Value} (ho : wx.ownsRow G 58 3 t' (T'.map sgOf).length (sgs (T'.map sgOf))) (hg : wr.grownBy wx t.ownBlock) : Cd w G sb er Y T' a t' wx :=
  have chg := (Chg.refl wr (fun k => t.ownBlock = some k)).grown hg (fun _ _ e => e)
  ⟨Norm.own_keep h.all chg (fun k hk e => Seg.own_apart h.all h.tld (by decide) k hk e), ho,
    done_keep h.dn chg (fun e => by obtain ⟨l, a', e', hb⟩ := h.dn; exact own_ne h.tld hb (by decide) e),
    h.bel.trans (chg.below (B := w.heap.size) h.bel.size (fun i hi e => by have := (h.tld.lt i e).1; omega))⟩
theorem Cz.wrote (h : Cz w G sb db lim Y X T U a t vo wr) (hG : w.heap.size ≤ G) (hc : Chg wr wx (Hers sb db vo)) {vo' : Value} {X' : List UInt8} {U' : List (List Pt)} (hl : Live wx G sb db lim vo' X' U') : Cz w G sb db lim Y X' T U' a t vo' wx :=
  ⟨Norm.own_keep h.all hc (h.lv.apart h.all (by decide) (by decide) (by decide)), Norm.own_keep h.tld hc (h.lv.apart h.tld (by decide) (by decide) (by decide)), hl, h.bel.trans (hc.below h.bel.size fun i hi => h.lv.hers (by omega))⟩
theorem Cz.ended (h : Cz w G sb db lim Y X T U a t vo wr) (hG : w.heap.size ≤ G) (hc : Chg wr wx (Hers sb db vo)) (hd : Done wx sb er) : Cd w G sb er Y T a t wx :=
  ⟨Norm.own_keep h.all hc (h.lv.apart h.all (by decide) (by decide) (by decide)), Norm.own_keep h.tld hc (h.lv.apart h.tld (by decide) (by decide) (by decide)), hd, h.bel.trans (hc.below h.bel.size fun i hi => h.lv.hers (by omega))⟩
/-- what a live segmenter has told is what is sure -/
theorem live_sure (h : Live wr G sb db lim vo X U) : suS lim X = U ∧ suE lim X = 0 ∧ flen (go opP flen lim [] [] (dec true 0 X)).2.1 = suN lim X := by
  obtain ⟨O, a, k0, k1, k2, g1, _, _⟩ := h
  obtain ⟨h1, h2, h3⟩ := (go_all opP flen lim flen_grows g1).1 rfl
  change _ = grp (dec true 0 X) at h1
  change ∀ g ∈ grp (dec true 0 X), _ at h3
  have hb := (okG_all flen lim h3).2
  rw [g1]
  unfold suS suE suN
  rw [hb]
  simp only [Bool.false_eq_true, if_false]
  refine ⟨?_, trivial, ?_⟩
  all_goals
    rw [← h1]
    by_cases hO : O = []
    · subst hO
      have hd : dec true 0 X = [] := by
        apply Classical.byContradiction; intro hne
        have := gfold_some opP hne ([], [])
        rw [h2] at this
        exact this rfl
      rw [hd] at h2
      have hU : U = [] := by have := congrArg Prod.fst h2; exact this.symm
      subst hU
      rfl
    · have : shut (U, O) = U ++ [O] := by unfold shut; rw [if_neg (by simpa using hO)]
      rw [this]
      simp
end
theorem over_sure {lim : Nat} {Y : List UInt8} {T : List (List Pt)} (h : ∀ c, okG flen lim (grp (dec true 0 Y ++ c)) = T ∧ badG flen lim (grp (dec true 0 Y ++ c)) = true) : suS lim Y = T ∧ suE lim Y = 6 ∧ suN lim Y = 0 := by
  have h1 := h []
  rw [List.append_nil] at h1
  unfold suS suE suN
  rw [h1.2, h1.1]
  simp
theorem suS_len (lim : Nat) (l : List UInt8) : (suS lim l).length ≤ l.length := by
  have h := grp_len true l
  unfold suS
  split
  · exact Nat.le_trans (List.takeWhile_sublist _).length_le h
  · rw [List.length_dropLast]; omega

set_option maxHeartbeats 16000000 in
set_option maxRecDepth 100000 in
theorem bad (A : Option Addr) (N c : Nat) (lim : Int) (B : Option Addr) (m d : Nat) (w : World) (hL : Laid w) (hlim : ¬ (1 ≤ lim ∧ lim ≤ 64)) :
    Calls Tryd.prog 4 #[.slice A N c, .int .i64 lim, .slice B m d] w (Law w) := by
  have HF := Lib.hid (fixed_any w hL)
  have HN := Lib.hid (fun u => new_bad lim u (by omega))
  by_cases h1 : lim < 1
  · have d1 : decide (lim < 1) = true := decide_eq_true h1
    clear hL hlim
    go_enter Tryd.func4, Tryd.ntmps4
    go_wp2_with fail
    refine HF.out.mono ?_
    rintro e w1 ⟨rfl, hb1⟩
    have HB1 := Lib.hid hb1
    clear hb1 HF
    go_wp2_with fail
    refine (HN.out w1).mono ?_
    rintro e w2 ⟨rfl, rfl⟩
    go_wp2_with fail
    go_ret
    exact ⟨rfl, HB1.out⟩
  · have h2 : 64 < lim := by omega
    have d1 : decide (lim < 1) = false := decide_eq_false h1
    have d2 : decide (64 < lim) = true := decide_eq_true h2
    clear hL hlim
    go_enter Tryd.func4, Tryd.ntmps4
    go_wp2_with fail
    refine HF.out.mono ?_
    rintro e w1 ⟨rfl, hb1⟩
    have HB1 := Lib.hid hb1
    clear hb1 HF
    go_wp2_with fail
    refine (HN.out w1).mono ?_
    rintro e w2 ⟨rfl, rfl⟩
    go_wp2_with fail
    go_ret
    exact ⟨rfl, HB1.out⟩

set_option maxHeartbeats 16000000 in
set_option maxRecDepth 100000 in
theorem good (A : Option Addr) (xs : List Chunk) (N c : Nat) (lim : Nat) (B : Option Addr) (m d : Nat) (w : World) (hL : Laid w) (hr : Rd w w.heap.size A (chunkVals xs) ∧ ∀ x ∈ xs, x.ok w) (hN : xs.length = N) (hNm : N ≤ 9223372036854775807) (ht : total xs ≤ 1048576) (hl1 : 1 ≤ lim) (hl2 : lim ≤ 64) :
    Calls Tryd.prog 4 #[.slice A N c, .int .i64 lim, .slice B m d] w (Law w) := by
  obtain ⟨hra, hok⟩ := hr
  obtain ⟨i0, hi, hz0, hz1, hz2⟩ := info_parts infoU8
  obtain ⟨ip, ip1, ip2, ip3, ip4⟩ := info_parts infoSg
  have HN := Lib.hid hN; have HOK := Lib.hid hok; have HL := Lib.hid hL; have HRA := Lib.hid hra; have HTT := Lib.hid ht; have HL1 := Lib.hid hl1
  have HF := Lib.hid (fixed_any w hL)
  have HNEW := Lib.hid (fun u => new_good (lim : Int) u (by omega) (by omega))
  have hgm := hL.size
  clear hN hok hL hra ht hl1
  go_enter Tryd.func4, Tryd.ntmps4
  go_wp2_with fail
  refine HF.out.mono ?_
  rintro e w1 ⟨rfl, hb1⟩
  have HB1 := Lib.hid hb1
  have hs1 := hb1.size
  clear hb1 HF
  go_wp2_with fail
  refine (HNEW.out w1).mono ?_
  rintro e w2 ⟨sb, db, rfl, hS, hb2⟩
  obtain ⟨G, hG⟩ : ∃ G, G = w1.heap.size := ⟨_, rfl⟩
  rw [← hG] at hS hs1
  have HC0 := Lib.hid (show Cz w G sb db lim [] [] [] [] (.slice none 0 0) (.slice none 0 0) (.slice none 0 0) w2 from
    ⟨World.ownsRow_nil _ _ _ _, World.ownsRow_nil _ _ _ _, live_new hS, HB1.out.trans (hb2.mono HB1.out.size)⟩)
  have hgG : 2 < G := by omega
  have hGs2 : G ≤ w2.heap.size := by rw [hG]; exact hb2.size
  clear hG hS hb2 HNEW HB1
  go_wp2_with fail
  go_loopw [9, 10, 55] (fun a t i wr => ∃ k : Nat, k ≤ N ∧ i = .int .i64 k ∧ ∃ vo T, Hid (Cz w G sb db lim (cat (xs.take k)) (cat (xs.take k)) T T a t vo wr) ∧ Hid (G ≤ wr.heap.size)) (fun _ _ i _ => N - (intOf i).toNat)
  case atStart => exact ⟨0, Nat.zero_le _, rfl, _, [], HC0, Lib.hid hGs2⟩
  case round =>
    clear HC0 hGs2
    obtain ⟨k, hk, rfl, vo, T, HC, HGS⟩ := hrel
    have hGr := HGS.out
    obtain ⟨L, hL⟩ : ∃ L, L = cat (xs.take k) := ⟨_, rfl⟩
    have hLb : L.length ≤ 1048576 := by have := HTT.out; have := cat_take_le xs k; rw [hL]; omega
    rw [← hL] at HC
    have HLE := Lib.hid hL
    clear hL HGS
    obtain ⟨n, hn⟩ : ∃ n, n = L.length := ⟨_, rfl⟩
    have HAO := Lib.hid HC.out.all
    have HTO := Lib.hid HC.out.tld
    have hTl : (T.map sgOf).length ≤ 1048576 := by
      have h1 := (live_sure HC.out.lv).1
      have h2 := suS_len lim L
      rw [h1] at h2
      rw [List.length_map]; omega
    rw [← hn] at HAO hLb
    obtain ⟨tn, htn⟩ : ∃ tn, tn = (T.map sgOf).length := ⟨_, rfl⟩
    rw [← htn] at HTO hTl
    obtain ⟨Aa, ca, rfl, _, _, _⟩ := Utf.own_form HAO.out
    obtain ⟨At, ct, rfl, _, _, _⟩ := Utf.own_form HTO.out
    have HNL := Lib.hid hn; have HTN := Lib.hid htn
    clear hn htn
    by_cases hlt : k < N
    · have HKN := Lib.hid hlt
      have hkx : k < xs.length := by rw [HN.out]; exact hlt
      have hLn := cat_succ hkx
      have hLn2 : (cat (xs.take (k + 1))).length ≤ 1048576 := by have := HTT.out; have := cat_take_le xs (k + 1); omega
      rw [← HLE.out] at hLn
      have hxk := HOK.out xs[k] (List.getElem_mem hkx)
      have hcx : (chunkVals xs)[k]? = some xs[k].val := by simp [chunkVals, hkx]
      obtain ⟨x, hx⟩ : ∃ x, x = xs[k] := ⟨_, rfl⟩
      rw [← hx] at hLn hxk hcx
      clear hx
      obtain ⟨Ax, lx, cx⟩ := x
      obtain ⟨hxc, hxm, hxr⟩ := hxk
      simp only at hLn hxc hxm hxr
      obtain ⟨b, o, rfl, hbl⟩ := HRA.out.form (by rw [chunkVals_len, HN.out]; omega)
      have hck : wr.cell? ⟨b, o + k, none⟩ = some (.slice Ax lx.length cx) := by
        obtain ⟨b', o', e, _, hc'⟩ := HRA.out (by intro e; have := congrArg List.length e; rw [chunkVals_len, HN.out, List.length_nil] at this; omega)
        simp only [Option.some.injEq, Addr.mk.injEq, and_true] at e
        obtain ⟨rfl, rfl⟩ := e
        rw [HC.out.bel.cell hbl]
        exact hc' k _ hcx
      obtain ⟨mx, hmx⟩ : ∃ mx, mx = lx.length := ⟨_, rfl⟩
      rw [← hmx] at hxc hck
      have hLnl : (L ++ lx).length = n + mx := by rw [List.length_append, ← HNL.out, hmx]
      rw [hLn, hLnl] at hLn2
      have HXR := Lib.hid hxr
      have HXR2 := Lib.hid ((hxr.below HC.out.bel).more HC.out.bel.size)
      have HLX := Lib.hid (show (bys lx).length = mx * 1 by rw [bys_len, hmx, Nat.mul_one])
      have HMX := Lib.hid hmx; have HLN := Lib.hid hLn; have HLNL := Lib.hid hLnl
      clear hmx hLn hLnl hcx hxr hkx
      go_wp2_with (at_builtin; refine wpList_append_rd _ rfl (.tmp 59) (.tmp 60) _ rfl G 5 i0 _ 1 1 Tryd.underlying31 hi hz0 hz1 hz2 rfl (by decide) _ n (bys L) rfl HAO.out _ Ax mx cx (bys lx) rfl HLX.out HXR2.out (bys_one _) (by unfold maxLen; omega) (by omega) hGr ?_; intro va wa hva hga hata)
      rw [← bys_append] at hva
      have HCa := Lib.hid (HC.out.grew_all (wx := wa) (Y' := L ++ lx) (a' := va) hs1 (by rw [HLNL.out]; exact hva) hga)
      obtain ⟨Ab, cb, rfl, _, _, _⟩ := Utf.own_form hva
      have hGa : G ≤ wa.heap.size := Nat.le_trans hGr hga.size
      have HXR3 := Lib.hid ((HXR.out.below HCa.out.bel).more HCa.out.bel.size)
      have HWR := Lib.hid (live_write G sb db lim mx cx vo L lx T Ax wa (HL.out.next HCa.out.bel) HCa.out.lv HXR3.out HMX.out.symm hxc (by omega) hGa hgG (by rw [← HNL.out]; omega))
      clear hva hga hata HC HAO HTO HXR2 HXR HXR3 hxc hxm
      go_wp2_with fail
      refine HWR.out.mono ?_
      rintro e wb ⟨vb, Tn, bad, rfl, hob, hcb, hgood, hover⟩
      have hGb : G ≤ wb.heap.size := Nat.le_trans hGa hcb.size
      have HT2E := Lib.hid (show ∃ T2, T2 = T ++ Tn from ⟨_, rfl⟩)
      obtain ⟨T2, hT2⟩ := HT2E.out
      have hsum : (T.map sgOf).length + (Tn.map sgOf).length = (T2.map sgOf).length := by rw [hT2, List.map_append, List.length_append]
      have HSG := Lib.hid (show sgs (T2.map sgOf) = sgs (T.map sgOf) ++ sgs (Tn.map sgOf) by rw [hT2, List.map_append, sgs_append])
      rw [← hT2] at hgood hover
      obtain ⟨yn, hyn⟩ : ∃ yn, yn = (Tn.map sgOf).length := ⟨_, rfl⟩
      rw [← hyn] at hob hsum
      obtain ⟨Ay, cy, rfl, _, _, hry⟩ := Utf.own_form hob
      have HRY := Lib.hid hry
      have HYL := Lib.hid (show (sgs (Tn.map sgOf)).length = yn * 3 by rw [sgs_len, hyn])
      obtain ⟨t2, ht2⟩ : ∃ t2, t2 = (T2.map sgOf).length := ⟨_, rfl⟩
      rw [← ht2, ← HTN.out] at hsum
      have HT2L := Lib.hid ht2
      have HSU := Lib.hid hsum
      have hsl := suS_len lim (L ++ lx)
      rw [HLNL.out] at hsl
      have HSL := Lib.hid hsl
      have HGOOD := Lib.hid hgood; have HOVER := Lib.hid hover; have HCB := Lib.hid hcb
      have HSS := Lib.hid (show sameS (T2.map sgOf) (T2.map sgOf) = true from decide_eq_true rfl)
      clear hT2 HT2E hob hyn hry ht2 hsl hgood hover hcb hsum
      cases bad with
      | false =>
        obtain ⟨vo', hlv, _⟩ := HGOOD.out rfl
        obtain ⟨e1, e2, e3⟩ := live_sure hlv
        have HE1 := Lib.hid e1; have HE2 := Lib.hid e2
        have ht2b : t2 ≤ 1048576 := by have := HSL.out; rw [HE1.out] at this; rw [HT2L.out, List.length_map]; omega
        have htyb : tn + yn ≤ 1048576 := by rw [HSU.out]; exact ht2b
        have HCb := Lib.hid (HCa.out.wrote hs1 HCB.out hlv)
        have HTB := Lib.hid (show wb.ownsRow G 58 3 (.slice At tn ct) tn (sgs (T.map sgOf)) by have := HCb.out.tld; rwa [← HTN.out] at this)
        obtain ⟨p, hp⟩ : ∃ p, p = suN lim (L ++ lx) := ⟨_, rfl⟩
        rw [← hp] at e3
        have HP := Lib.hid hp; have HE3 := Lib.hid e3
        clear hlv e1 e2 e3 hp HCa HGOOD HOVER HCB HWR
        go_wp2_with (at_builtin; refine wpList_append_rd _ rfl (.tmp 68) (.tmp 69) _ rfl G 58 ip _ 3 32 Tryd.underlying36 ip1 ip2 ip3 ip4 rfl (by decide) _ tn (sgs (T.map sgOf)) rfl HTB.out _ Ay yn cy (sgs (Tn.map sgOf)) rfl HYL.out HRY.out (sgs_one _) (by unfold maxLen; omega) (by omega) hGb ?_; intro vt wt hvt hgt hatt)
        rw [← HSG.out, HSU.out] at hvt
        have HCt := Lib.hid (HCb.out.grew_told (wx := wt) (T' := T2) (t' := vt) hs1 (by rw [← HT2L.out]; exact hvt) hgt)
        obtain ⟨Au, cu, rfl, _, _, _⟩ := Utf.own_form hvt
        have hGt : G ≤ wt.heap.size := Nat.le_trans hGb hgt.size
        have HAT := Lib.hid (show Rd wt wt.heap.size Ab (bys (L ++ lx)) from Rd.of_own (by have := HCt.out.all; rw [HLNL.out] at this; exact this))
        have HSR := Lib.hid (rsure_any lim (L ++ lx) Ab (n + mx) cb wt HAT.out HLNL.out (by omega))
        clear hvt hgt hatt HCb HTB HYL HRY HAT
        go_wp2_with fail
        refine HSR.out.mono ?_
        rintro e wu ⟨Aw, wn, cw, rfl, hwn, hrw, hbu⟩
        rw [HE1.out] at hwn hrw
        have hwn2 : wn = t2 := by rw [hwn, HT2L.out, List.length_map]
        subst hwn2
        rw [HE2.out, ← HP.out]
        have HCu := Lib.hid (HCt.out.next hbu)
        have HRW := Lib.hid hrw
        have HTU := Lib.hid (Rd.of_own (by have := HCu.out.tld; rw [← HT2L.out] at this; exact this))
        have HSM := Lib.hid (rsame_any Au Aw (T2.map sgOf) (T2.map sgOf) wn wn cu cw wu HTU.out HRW.out HT2L.out.symm HT2L.out.symm (by omega) (by omega))
        have en : ((p : Int) != (p : Int)) = false := by simp
        clear hwn hrw hbu HCt HSR
        go_wp2_with fail
        refine HSM.out.mono ?_
        rintro e wv ⟨rfl, kk, hwv⟩
        rw [HSS.out]
        have hbv : Below wu.heap.size wu wv := by rw [hwv]; exact below_drewN (Below.refl _ _) _
        have HCv := Lib.hid (HCu.out.next hbv)
        have HPD := Lib.hid (HCv.out.lv.pend HE3.out)
        have HER := Lib.hid ((live_err HCv.out.lv))
        have hGv : G ≤ wv.heap.size := by have := HCv.out.lv; obtain ⟨_, _, _, _, _, _, hs, _⟩ := this; exact Nat.le_trans hs.le (Nat.le_of_lt hs.blk.lt)
        clear hwv hbv HCu HRW HTU HSM
        go_wp2_with fail
        refine HPD.out.mono ?_
        rintro e w' ⟨rfl, rfl⟩
        go_wp2_with fail
        refine HER.out.mono ?_
        rintro e w' ⟨rfl, rfl⟩
        have hst : Hid (Cz w G sb db lim (cat (xs.take (k + 1))) (cat (xs.take (k + 1))) T2 T2 (.slice Ab (n + mx) cb) (.slice Au wn cu) vo' wv) := Lib.hid (by rw [HLN.out]; exact HCv.out)
        clear HPD HER HCv
        go_wp2_with fail
        clear en
        go_roundw
        case rel => exact ⟨k + 1, by have := HKN.out; omega, by go_num, _, _, hst, Lib.hid hGv⟩
        case measure => have := HKN.out; simp [intOf]; omega
      | true =>
        obtain ⟨hD, hov⟩ := HOVER.out rfl
        obtain ⟨e1, e2, e3⟩ := over_sure hov
        have HE1 := Lib.hid e1; have HE2 := Lib.hid e2; have HE3 := Lib.hid e3
        have ht2b : t2 ≤ 1048576 := by have := HSL.out; rw [HE1.out] at this; rw [HT2L.out, List.length_map]; omega
        have htyb : tn + yn ≤ 1048576 := by rw [HSU.out]; exact ht2b
        have HCb := Lib.hid (HCa.out.ended hs1 HCB.out hD)
        have HTB := Lib.hid (show wb.ownsRow G 58 3 (.slice At tn ct) tn (sgs (T.map sgOf)) by have := HCb.out.tld; rwa [← HTN.out] at this)
        clear hD hov e1 e2 e3 HCa HGOOD HOVER HCB HWR
        go_wp2_with (at_builtin; refine wpList_append_rd _ rfl (.tmp 68) (.tmp 69) _ rfl G 58 ip _ 3 32 Tryd.underlying36 ip1 ip2 ip3 ip4 rfl (by decide) _ tn (sgs (T.map sgOf)) rfl HTB.out _ Ay yn cy (sgs (Tn.map sgOf)) rfl HYL.out HRY.out (sgs_one _) (by unfold maxLen; omega) (by omega) hGb ?_; intro vt wt hvt hgt hatt)
        rw [← HSG.out, HSU.out] at hvt
        have HCt := Lib.hid (HCb.out.grew_told (wx := wt) (T' := T2) (t' := vt) hs1 (by rw [← HT2L.out]; exact hvt) hgt)
        obtain ⟨Au, cu, rfl, _, _, _⟩ := Utf.own_form hvt
        have HAT := Lib.hid (show Rd wt wt.heap.size Ab (bys (L ++ lx)) from Rd.of_own (by have := HCt.out.all; rw [HLNL.out] at this; exact this))
        have HSR := Lib.hid (rsure_any lim (L ++ lx) Ab (n + mx) cb wt HAT.out HLNL.out (by omega))
        clear hvt hgt hatt HCb HTB HYL HRY HAT
        go_wp2_with fail
        refine HSR.out.mono ?_
        rintro e wu ⟨Aw, wn, cw, rfl, hwn, hrw, hbu⟩
        rw [HE1.out] at hwn hrw
        have hwn2 : wn = t2 := by rw [hwn, HT2L.out, List.length_map]
        subst hwn2
        rw [HE2.out, HE3.out]
        have HCu := Lib.hid (HCt.out.next hbu)
        have HRW := Lib.hid hrw
        have HTU := Lib.hid (Rd.of_own (by have := HCu.out.tld; rw [← HT2L.out] at this; exact this))
        have HSM := Lib.hid (rsame_any Au Aw (T2.map sgOf) (T2.map sgOf) wn wn cu cw wu HTU.out HRW.out HT2L.out.symm HT2L.out.symm (by omega) (by omega))
        clear hwn hrw hbu HCt HSR
        go_wp2_with fail
        refine HSM.out.mono ?_
        rintro e wv ⟨rfl, kk, hwv⟩
        rw [HSS.out]
        have hbv : Below wu.heap.size wu wv := by rw [hwv]; exact below_drewN (Below.refl _ _) _
        have HCv := Lib.hid (HCu.out.next hbv)
        have HPD := Lib.hid (pending_done sb 6 wv HCv.out.dn)
        have HER := Lib.hid (done_six HCv.out.dn)
        have HWD := Lib.hid (write_done sb m d B 6 wv HCv.out.dn (by decide))
        clear hwv hbv HCu HRW HTU HSM
        go_wp2_with fail
        refine HPD.out.mono ?_
        rintro e w' ⟨rfl, rfl⟩
        go_wp2_with fail
        refine HER.out.mono ?_
        rintro e w' ⟨rfl, rfl⟩
        go_wp2_with fail
        refine HWD.out.mono ?_
        rintro e wx ⟨rfl, n1, hwx⟩
        have hbx : Below wv.heap.size wv wx := by rw [hwx]; exact below_drewN (Below.refl _ _) _
        have HCx := Lib.hid (HCv.out.next hbx)
        have HCD := Lib.hid (close_done sb 6 wx HCx.out.dn (by decide))
        clear hwx hbx HPD HER HWD HCv
        go_wp2_with fail
        refine HCD.out.mono ?_
        rintro e wy ⟨rfl, n2, hwy⟩
        have hby : Below wx.heap.size wx wy := by rw [hwy]; exact below_drewN (Below.refl _ _) _
        have HCy := Lib.hid (HCx.out.next hby)
        have HPE := Lib.hid (pending_done sb 6 wy HCy.out.dn)
        clear hwy hby HCD HCx
        go_wp2_with fail
        refine HPE.out.mono ?_
        rintro e w' ⟨rfl, rfl⟩
        go_wp2_with fail
        go_ret
        exact ⟨rfl, HCy.out.bel⟩
    · obtain rfl : k = N := by omega
      have HCL := Lib.hid (live_close G sb db lim vo L T wr (HL.out.next HC.out.bel) HC.out.lv hGr hgG (by rw [← HNL.out]; omega))
      have hok := okS_len lim L
      rw [← HNL.out] at hok
      have HOKL := Lib.hid hok
      clear hok
      go_wp2_with fail
      refine HCL.out.mono ?_
      rintro e wb ⟨vb, Tn, rfl, hob, hcb, hT2, hD⟩
      have HCb := Lib.hid (HC.out.ended hs1 hcb hD)
      have hGb : G ≤ wb.heap.size := Nat.le_trans hGr hcb.size
      have hsum : (T.map sgOf).length + (Tn.map sgOf).length = ((okS lim L).map sgOf).length := by rw [← hT2, List.map_append, List.length_append]
      have HSG := Lib.hid (show sgs ((okS lim L).map sgOf) = sgs (T.map sgOf) ++ sgs (Tn.map sgOf) by rw [← hT2, List.map_append, sgs_append])
      obtain ⟨yn, hyn⟩ : ∃ yn, yn = (Tn.map sgOf).length := ⟨_, rfl⟩
      rw [← hyn] at hob hsum
      obtain ⟨Ay, cy, rfl, _, _, hry⟩ := Utf.own_form hob
      have HRY := Lib.hid hry
      have HYL := Lib.hid (show (sgs (Tn.map sgOf)).length = yn * 3 by rw [sgs_len, hyn])
      have HSE := Lib.hid (show spE lim L = if badS lim L then 6 else 0 by unfold spE; rw [if_pos (by have := HL1.out; omega)]; rfl)
      have HSP := Lib.hid (show spS lim L = (okS lim L).map sgOf by unfold spS; rw [if_pos (by have := HL1.out; omega)]; rfl)
      obtain ⟨T2, hTT2⟩ : ∃ T2, T2 = okS lim L := ⟨_, rfl⟩
      rw [← hTT2] at hsum HSG HSP HOKL
      obtain ⟨t2, ht2⟩ : ∃ t2, t2 = (T2.map sgOf).length := ⟨_, rfl⟩
      rw [← ht2, ← HTN.out] at hsum
      have HT2L := Lib.hid ht2
      have HSU := Lib.hid hsum
      have HSS := Lib.hid (show sameS (T2.map sgOf) (T2.map sgOf) = true from decide_eq_true rfl)
      have ht2b : t2 ≤ 1048576 := by have := HOKL.out; rw [HT2L.out, List.length_map]; omega
      have htyb : tn + yn ≤ 1048576 := by rw [HSU.out]; exact ht2b
      have HTB := Lib.hid (show wb.ownsRow G 58 3 (.slice At tn ct) tn (sgs (T.map sgOf)) by have := HCb.out.tld; rwa [← HTN.out] at this)
      clear hob hcb hT2 hD hsum hyn hry hTT2 ht2 HC HCL HAO HTO
      cases hbb : badS lim L
      all_goals
        have HBB := Lib.hid hbb
        rw [hbb] at HCb HSE
        clear hbb
        go_wp2_with (at_builtin; refine wpList_append_rd _ rfl (.tmp 141) (.tmp 142) _ rfl G 58 ip _ 3 32 Tryd.underlying36 ip1 ip2 ip3 ip4 rfl (by decide) _ tn (sgs (T.map sgOf)) rfl HTB.out _ Ay yn cy (sgs (Tn.map sgOf)) rfl HYL.out HRY.out (sgs_one _) (by unfold maxLen; omega) (by omega) hGb ?_; intro vt wt hvt hgt hatt)
        rw [← HSG.out, HSU.out] at hvt
        have HCt := Lib.hid (HCb.out.grew_told (wx := wt) (T' := T2) (t' := vt) hs1 (by rw [← HT2L.out]; exact hvt) hgt)
        obtain ⟨Au, cu, rfl, _, _, _⟩ := Utf.own_form hvt
        have HAT := Lib.hid (show Rd wt wt.heap.size Aa (bys L) from Rd.of_own (by have := HCt.out.all; rw [← HNL.out] at this; exact this))
        have HSR := Lib.hid (rsplit_any (lim : Int) L Aa n ca wt HAT.out HNL.out.symm (by omega))
        clear hvt hgt hatt HCb HTB HYL HRY HAT
        go_wp2_with fail
        refine HSR.out.mono ?_
        rintro e wu ⟨Aw, wn, cw, rfl, hwn, hrw, hbu⟩
        rw [HSP.out] at hwn hrw
        have hwn2 : wn = t2 := by rw [hwn, HT2L.out]
        subst hwn2
        rw [HSE.out]
        have HCu := Lib.hid (HCt.out.next hbu)
        have HRW := Lib.hid hrw
        have HWD := Lib.hid (write_done sb m d B _ wu HCu.out.dn (by decide))
        clear hwn hrw hbu HCt HSR
        go_wp2_with fail
        refine HWD.out.mono ?_
        rintro e wx ⟨rfl, n1, hwx⟩
        have hbx : Below wu.heap.size wu wx := by rw [hwx]; exact below_drewN (Below.refl _ _) _
        have HCx := Lib.hid (HCu.out.next hbx)
        have HRX := Lib.hid ((HRW.out.below hbx).more hbx.size)
        have HCD := Lib.hid (close_done sb _ wx HCx.out.dn (by decide))
        clear hwx hbx HWD HCu HRW
        go_wp2_with fail
        refine HCD.out.mono ?_
        rintro e wy ⟨rfl, n2, hwy⟩
        have hby : Below wx.heap.size wx wy := by rw [hwy]; exact below_drewN (Below.refl _ _) _
        have HCy := Lib.hid (HCx.out.next hby)
        have HRZ := Lib.hid ((HRX.out.below hby).more hby.size)
        have HTU := Lib.hid (Rd.of_own (by have := HCy.out.tld; rw [← HT2L.out] at this; exact this))
        have HSM := Lib.hid (rsame_any Au Aw (T2.map sgOf) (T2.map sgOf) wn wn cu cw wy HTU.out HRZ.out HT2L.out.symm HT2L.out.symm (by omega) (by omega))
        clear hwy hby HCD HCx HRX
        go_wp2_with fail
        refine HSM.out.mono ?_
        rintro e wv ⟨rfl, kk, hwv⟩
        rw [HSS.out]
        have hbv : Below wy.heap.size wy wv := by rw [hwv]; exact below_drewN (Below.refl _ _) _
        have HCv := Lib.hid (HCy.out.next hbv)
        have HPD := Lib.hid (pending_done sb _ wv HCv.out.dn)
        have HER := Lib.hid (show Calls Tryd.prog 15 #[.pointer (some ⟨sb, 0, none⟩)] wv fun e w' => e = .returned (.int .i64 (spE lim L)) ∧ wv = w' by
          rw [HSE.out]
          first
          | exact err_done sb wv HCv.out.dn
          | exact (done_six HCv.out.dn))
        rw [HSE.out] at HER
        clear hwv hbv HCy HRZ HTU HSM
        go_wp2_with fail
        refine HER.out.mono ?_
        rintro e w' ⟨rfl, rfl⟩
        go_wp2_with fail
        refine HPD.out.mono ?_
        rintro e w' ⟨rfl, rfl⟩
        go_wp2_with fail
        go_ret
        exact ⟨rfl, HCv.out.bel⟩

theorem walk (A : Option Addr) (xs : List Chunk) (N c : Nat) (lim : Int) (B : Option Addr) (m d : Nat) (w : World) (hL : Laid w) (hr : Rd w w.heap.size A (chunkVals xs) ∧ ∀ x ∈ xs, x.ok w) (hN : xs.length = N) (hNm : N ≤ 9223372036854775807) (ht : total xs ≤ 1048576) :
    Calls Tryd.prog 4 #[.slice A N c, .int .i64 lim, .slice B m d] w (Law w) := by
  by_cases h : 1 ≤ lim ∧ lim ≤ 64
  · obtain ⟨lm, rfl⟩ : ∃ lm : Nat, lim = lm := ⟨lim.toNat, by omega⟩
    exact good A xs N c lm B m d w hL hr hN hNm ht (by omega) (by omega)
  · exact bad A N c lim B m d w hL h

set_option maxRecDepth 100000 in
theorem contract (H : Type) (enc : TypeId × Value → H) (W : World) (base : Nat) (args : Array Value) (ds gs : List (DataW H)) (before : List MemPlace)
    (hval : ∀ (j : Nat) t v, Tryd.f4.params[j]? = some t → args[j]? = some v → Value.okWide Tryd.prog W .any base t v)
    (hW : DataW.Whole enc Tryd.prog Tryd.f4.params.toList Rows.segChunksSpec.vars false W args.toList ds gs before) (hLL : laidMetH Tryd.prog Rows.segChunksUptoRow.laid W) (hk : Rows.uptoSmall H (ds ++ gs) = true) :
    Calls Tryd.prog 4 args W fun e W' => ∃ v, e = .returned v ∧ Rows.segChunksSpec.post enc Tryd.prog Tryd.f4 false true false false W args v W' := by
  have hL : Laid W := laid_of hLL
  have hW' := hW
  obtain ⟨p, q, hA0, hV, rfl, hfz, hnd⟩ := hW
  have hA : DataW.TrodAll enc Tryd.prog W 0 (fun _ => true) true Tryd.f4.params.toList args.toList ds p := hA0
  rw [Tryd.params4] at hA hval
  obtain ⟨v0, vs0, d0, ds0, p0, q0, hargs, rfl, rfl, h0, r0⟩ := trodAll_cons hA
  obtain ⟨v1, vs1, d1, ds1, p1, q1, rfl, rfl, rfl, h1, r1⟩ := trodAll_cons r0
  obtain ⟨v2, vs2, d2, ds2, p2, q2, rfl, rfl, rfl, h2, r2⟩ := trodAll_cons r1
  obtain ⟨rfl, rfl, rfl⟩ := trodAll_nil r2
  obtain rfl : args = #[v0, v1, v2] := by cases args; simp_all
  obtain ⟨rfl, rfl⟩ := trodVars_none hV
  obtain ⟨a0, len0, cap0, rfl⟩ := okWide_slice Tryd.underlying30 (hval 0 30 v0 rfl rfl)
  have k0 := h0
  have lt0 : ∀ x ∈ p0, x.block < W.heap.size := by obtain ⟨m, hm⟩ := k0; exact DataW.trod_lt m _ _ _ hm
  obtain ⟨l0, hl0, hc0, hm0, hr0, hb0⟩ := open_chunks h0
  obtain ⟨z1, rfl, rfl, rfl, w1⟩ := open_int Tryd.underlying3 (hval 1 3 v1 rfl rfl) h1
  obtain ⟨a2, len2, cap2, rfl⟩ := okWide_slice Tryd.underlying31 (hval 2 31 v2 rfl rfl)
  have k2 := h2
  have lt2 : ∀ x ∈ p2, x.block < W.heap.size := by obtain ⟨m, hm⟩ := k2; exact DataW.trod_lt m _ _ _ hm
  obtain ⟨l2, hl2, hc2, hm2, hr2, hb2⟩ := open_bytes h2
  have hbd := bulk_bound hk
  simp only [List.append_nil, Rows.uptoBulkAll] at hbd
  clear hA0
  refine (walk a0 l0 len0 cap0 z1 a2 len2 cap2 W hL hr0 hl0 (by omega) (by omega)).mono fun e W' ⟨he, bel⟩ => ?_
  subst he
  exact ⟨_, rfl, _, _, _, [], _, [], hW', trodAll_mk1 (shut_bool Tryd.underlying4 _), (trodAll_cons_mk (Below.trod laidOut (by kernel_rfl) (of_decide_eq_true (by kernel_rfl)) k0 bel lt0) (trodAll_cons_mk (shut_int Tryd.underlying3 w1) (trodAll_cons_mk (Below.trod laidOut (by kernel_rfl) (of_decide_eq_true (by kernel_rfl)) k2 bel lt2) trodAll_mk0))), rfl, bel.frame _, fun h => by cases h⟩

set_option maxRecDepth 100000 in
theorem laid_met (os : Os) : laidMet Tryd.prog Rows.segChunksUptoRow.laid ((laidWorld os).forCall (fun _ _ => 0) ⟨#[], #[.slice none 0 0, .int .i64 0, .slice none 0 0], []⟩).memory :=
  laidMet_of_run' 8 (by kernel_rfl) (by kernel_rfl)
set_option maxRecDepth 100000 in
theorem reads (os : Os) {H : Type} (enc : TypeId × Value → H) : ∃ places, DataW.whole enc Tryd.prog ((laidWorld os).forCall (fun _ _ => 0) ⟨#[], #[.slice none 0 0, .int .i64 0, .slice none 0 0], []⟩).memory Tryd.f4.params.toList Rows.segChunksSpec.vars false (#[.slice none 0 0, .int .i64 0, .slice none 0 0] : Array Value).toList 8 = some ([.nil, .lit (.int .i64 0), .nil], [], places) :=
  ⟨[], by kernel_rfl⟩

set_option maxRecDepth 100000 in
theorem lifted (os : Os) (started : os.Started) (H : Type) (enc : TypeId × Value → H) (F : Stop.Interp) :
    ReturnsInHanded {} Tryd.checked os 4 .any ((Rows.OpenSpec.upto Rows.segChunksSpec).preRow enc Tryd.prog Tryd.f4 Rows.segChunksUptoRow.domain false Rows.segChunksUptoRow.laid) (((Rows.OpenSpec.upto Rows.segChunksSpec).at F).post enc Tryd.prog Tryd.f4 false true false false) := by
  obtain ⟨places, hx⟩ := reads os enc
  refine returnsInHanded_of_row (C := Tryd.checked) (s := Rows.OpenSpec.upto Rows.segChunksSpec) own started (by kernel_rfl) Tryd.func4
    (witness_row_at (enc := enc) (C := Tryd.checked) false (laidWorld os) #[.slice none 0 0, .int .i64 0, .slice none 0 0] rfl (by kernel_rfl) (by kernel_rfl) (by kernel_rfl)
      (OpenSpec.preRow_of_cond 8 hx (by kernel_rfl) (fun k hk => by cases hk; kernel_rfl) (by kernel_rfl) (laid_met os))) ?_
  intro W base args ds gs before hval hW _ hcond _ hL _ _
  exact contract H enc W base args ds gs before hval hW hL (hcond _ rfl)

set_option maxRecDepth 100000 in
theorem said : Rows.SegChunksUptoSaid :=
  OpenClaim.holds_of_cond 4 Tryd.f4 rfl rfl rfl rfl rfl rfl rfl ⟨rfl, rfl, rfl, rfl, rfl⟩ rfl rfl rfl rfl rfl (by kernel_rfl) Tryd.func4 (by kernel_rfl)
    (of_decide_eq_true (by kernel_rfl)) (by unfold Func.isWrapper; first | (rw [if_pos (by decide +kernel)]; kernel_rfl) | (rw [if_neg (by decide +kernel)]; exact ⟨rfl, rfl⟩))
    (fun os started H enc _ F => by rw [OpenClaim.pre_eq_preRow]; exact lifted os started H enc F)

set_option maxRecDepth 100000 in
/-- no parameter wants a stand-in; the program's own looks are off -/
theorem plain (f : FuncId) (fn : Func) (hf : Tryd.pinned.checked.prog.funcNamed Rows.segChunksUptoRow.func = some f) (hfn : Tryd.pinned.checked.prog.funcs[f]? = some fn) :
    false = Tryd.pinned.checked.prog.looks [] ∧ ∀ (j : Nat) t, fn.params[j]? = some t → Tryd.pinned.checked.prog.wantsStandIn t = false := by
  obtain rfl : f = 4 := Option.some.inj ((show Tryd.prog.funcNamed Rows.segChunksUptoRow.func = some 4 by kernel_rfl).symm.trans hf) |>.symm
  obtain rfl : fn = Tryd.f4 := (Option.some.inj (Tryd.func4.symm.trans hfn)).symm
  refine ⟨by kernel_rfl, fun j t ht => ?_⟩
  rw [Tryd.params4] at ht
  have hm := Array.mem_of_getElem? ht
  simp only [List.mem_toArray, List.mem_cons, List.not_mem_nil, or_false] at hm
  rcases hm with rfl | rfl | rfl
  all_goals first | exact (show Tryd.prog.wantsStandIn 30 = false by kernel_rfl) | exact (show Tryd.prog.wantsStandIn 3 = false by kernel_rfl) | exact (show Tryd.prog.wantsStandIn 31 = false by kernel_rfl)

set_option maxRecDepth 100000 in
/-- THE STATEMENT -/
theorem proved : Rows.SegChunksUptoCardSaid :=
  Claim7.holds_tied_plain_at .later [] _ _ _ _ said (fun _ h => by cases h) (by kernel_rfl) (fun _ h => by cases h) segChunksUpto_row_tie rfl ⟨rfl, rfl⟩ (by kernel_rfl) rfl plain (by kernel_rfl)
end Go.Proofs.YtbljomfofgocaaaDoor.LawSegChunks
