/-
  CONTRACTS OF Write, Close, whole, Split, Texts, Same: what a segmenter tells of the bytes that it was handed.
-/
import Derived.Test.YtbljomfofgocaaaDoorSegTake
namespace Go.Proofs.YtbljomfofgocaaaDoor.Seg
open Go.Shelf Go.RowKit Go.Sort
open Utf hiding infoI32 rd_new own_form rdec_any below_drewN new_any write_any close_any
open Ucd hiding grow same Told
open Norm hiding new_any write_any close_any pending_any pending_nil write_nil write_closed close_nil
set_option maxRecDepth 100000

/-! ### the decoder's Close, its answer a row of the call's own -/
def Shuts (w : World) (g : Nat) (k0 k1 k2 : UInt8) (n q : Nat) (e : Ending) (w' : World) : Prop :=
  ∃ v, e = .returned v ∧ w'.ownsRow w.heap.size 88 3 v (last n q).length (pts (last n q)) ∧ Dc w' g k0 k1 k2 0 q true ∧ w.grownBy w' (some g)
set_option maxHeartbeats 1000000 in
theorem shut_zero (g q : Nat) (k0 k1 k2 : UInt8) (b : Bool) (w : World) (h : Dc w g k0 k1 k2 0 q b) : Calls Tryd.prog 40 #[.pointer (some ⟨g, 0, none⟩)] w (Shuts w g k0 k1 k2 0 q) := by
  have h3 : w.cell? ⟨g, 3, none⟩ = some (.int .i64 0) := h.c3
  have h5 := h.c5
  have f5 := h.fr 5
  have H := Lib.hid h
  clear h
  go_enter Tryd.func40, Tryd.ntmps40
  go_wp2
  go_ret
  exact ⟨.slice none 0 0, rfl, World.ownsRow_nil _ _ _ _, (H.out : Blk _ _ _ _).set_ 5 (.bool true), ⟨rfl, rfl, rfl, by simp, fun k _ hk => heap_setCell_other _ _ _ _ (fun e => hk (by rw [e]))⟩⟩
set_option maxHeartbeats 1000000 in
theorem shut_more (g n q : Nat) (k0 k1 k2 : UInt8) (b : Bool) (w : World) (h : Dc w g k0 k1 k2 n q b) (hn : n ≠ 0) : Calls Tryd.prog 40 #[.pointer (some ⟨g, 0, none⟩)] w (Shuts w g k0 k1 k2 n q) := by
  have h3 := h.c3
  have h4 := h.c4
  have h5 := h.c5
  have f3 := h.fr 3
  have f4 := h.fr 4
  have f5 := h.fr 5
  have hne : ((n : Int) == 0) = false := by simp; omega
  have H := Lib.hid h
  have HN := Lib.hid hn
  have hlt : g < w.heap.size := Blk.lt h
  clear h hn
  go_enter Tryd.func40, Tryd.ntmps40
  go_wp2
  go_region
  all_goals go_wp2
  go_ret
  have el : last n q = [⟨65533, q, n⟩] := by unfold last; rw [if_neg HN.out]
  have hB : Blk ((w.setCell ⟨g, 5, none⟩ (.bool true)).setCell ⟨g, 3, none⟩ (.int .i64 0)) g 91 (dcs k0 k1 k2 0 q true) :=
    ((H.out : Blk _ _ _ _).set_ 5 (.bool true)).set_ 3 (.int .i64 0)
  refine ⟨.slice (some ⟨w.heap.size + 1, 0, none⟩) 1 1, rfl, ?_, (hB.alloc _).alloc _, grown_drew (grown_alloc (grown_alloc (grown_set (grown_set (World.grownBy.refl w _) 5 _) 3 _) _) _)⟩
  rw [el]
  refine ⟨rfl, .inr ⟨w.heap.size + 1, 1, #[.int .i32 65533, .int .i64 q, .int .i64 n], rfl, by omega, ?_, Nat.le_refl _, by simp [maxLen], rfl, rfl⟩⟩
  have h1 : (((w.setCell ⟨g, 5, none⟩ (.bool true)).setCell ⟨g, 3, none⟩ (.int .i64 0)).alloc (.cells #[.int .i32 65533, .int .i64 q, .int .i64 n] 88)).heap.size = w.heap.size + 1 := by simp
  have := heap_alloc_new (((w.setCell ⟨g, 5, none⟩ (.bool true)).setCell ⟨g, 3, none⟩ (.int .i64 0)).alloc (.cells #[.int .i32 65533, .int .i64 q, .int .i64 n] 88)) (.cells #[.int .i32 65533, .int .i64 q, .int .i64 n] 88)
  rw [h1] at this
  exact this
theorem shut_dec (g n q : Nat) (k0 k1 k2 : UInt8) (b : Bool) (w : World) (h : Dc w g k0 k1 k2 n q b) : Calls Tryd.prog 40 #[.pointer (some ⟨g, 0, none⟩)] w (Shuts w g k0 k1 k2 n q) := by
  by_cases hn : n = 0
  · subst hn; exact shut_zero g q k0 k1 k2 b w h
  · exact shut_more g n q k0 k1 k2 b w h hn

/-! ### Write -/
theorem Sm.turn {w w1 : World} {base sb db a e : Nat} {lim : Int} {dc dc' : List Value} {vo : Value} {O : List Pt} (h : Sm w base sb db lim dc vo O a e) (hg : w.grownBy w1 (some db)) (hD : Blk w1 db 91 dc') : Sm w1 base sb db lim dc' vo O a e :=
  ⟨h.blk.grown hg (fun e => h.apart (by injection e)), hD, h.own.kept hg (.inr (fun e => h.ned e)), h.le, h.led, h.reach⟩
def Writes (w : World) (base sb db lim : Nat) (vo : Value) (O : List Pt) (q : Nat) (L : List UInt8) (e : Ending) (w' : World) : Prop :=
  ∃ v T O' b, go opP flen lim [] O (dec true q L) = (T, O', b) ∧ e = .returned (.tuple #[v, .int .i64 (if b then 6 else 0)]) ∧ w'.ownsRow w.heap.size 58 3 v (T.map sgOf).length (sgs (T.map sgOf)) ∧ Chg w w' (Hers sb db vo) ∧
    (b = false → ∃ vo' a' k0 k1 k2, Sm w' base sb db lim (dcs k0 k1 k2 (L.length - eat L) (q + eat L) false) vo' O' a' (q + eat L) ∧ kept k0 k1 k2 (L.length - eat L) = L.drop (eat L) ∧ ∀ g, vo'.ownBlock = some g → w.heap.size ≤ g ∨ vo.ownBlock = some g) ∧
    (b = true → Done w' sb 6)
set_option maxHeartbeats 4000000 in
theorem write_any (base sb db lim a m c n q : Nat) (k0 k1 k2 : UInt8) (vo : Value) (O : List Pt) (A : Option Addr) (l : List UInt8) (w : World) (hL : Laid w) (hS : Sm w base sb db lim (dcs k0 k1 k2 n q false) vo O a q)
    (hn3 : n ≤ 3) (hr : Rd w w.heap.size A (bys l)) (hm : l.length = m) (hc : m ≤ c) (hcm : c ≤ 9223372036854775807) (hb : base ≤ w.heap.size) (hg : 2 < base) (hsm : flen O + 3 * (n + m) ≤ 1073741824) (hq : q + n + m ≤ 1073741824) :
    Calls Tryd.prog 11 #[.pointer (some ⟨sb, 0, none⟩), .slice A m c] w (Writes w base sb db lim vo O q (kept k0 k1 k2 n ++ l)) := by
  have HW := Lib.hid (Utf.write_any db n q m c k0 k1 k2 A l w hS.dec hn3 hr hm hc hcm (by omega) (by omega))
  have hkl : (kept k0 k1 k2 n).length = n := by unfold kept; rw [List.length_take]; show min n 3 = n; omega
  have hLl : (kept k0 k1 k2 n ++ l).length = n + m := by rw [List.length_append, hkl, hm]
  generalize kept k0 k1 k2 n ++ l = L at HW hLl ⊢
  have hdl := dec_len_le true L q
  have hww := ww_eat L q
  have htl := dec_tile true L q
  have hel := eat_le L
  rw [hLl] at hdl hel
  have c1 := hS.blk.cell 1
  have c5 := hS.blk.cell 5
  simp only [scs, List.getElem?_cons_succ, List.getElem?_cons_zero] at c1 c5
  have HS := Lib.hid hS
  have HL := Lib.hid hL
  have HLL := Lib.hid hLl
  have HDL := Lib.hid hdl; have HWW := Lib.hid hww; have HTL := Lib.hid htl; have HEL := Lib.hid hel
  obtain ⟨dl, hdl2⟩ : ∃ dl, dl = (dec true q L).length := ⟨_, rfl⟩
  have HDL2 := Lib.hid hdl2
  clear hS hL hr hm hc hkl hLl hdl hww htl hel hdl2
  go_enter Tryd.func11, Tryd.ntmps11
  go_wp2_with fail
  refine HW.out.mono ?_
  rintro e1 w1 ⟨v1, j0, j1, j2, rfl, hown, hD, hk, hgr⟩
  obtain ⟨A1, ca1, rfl, _⟩ := Utf.own_form hown
  rw [← HDL2.out] at hown ⊢
  have HS1 := Lib.hid (HS.out.turn hgr hD)
  have HG := Lib.hid hgr
  have HK := Lib.hid hk
  have HO := Lib.hid hown
  have HC1 := Lib.hid ((Chg.refl w (Hers sb db vo)).grown hgr (fun i _ h => .inr (.inl (by injection h with h; exact h.symm))))
  have HL1 := Lib.hid (HL.out.below (HC1.out.below hb (fun i hi => HS.out.hers hi)) hg)
  have hb1 : base ≤ w1.heap.size := Nat.le_trans hb hgr.size
  clear hown hD hk hgr c1 c5 HW
  go_wp2_with fail
  refine (take_any base sb db lim a q dl ca1 w.heap.size (dcs j0 j1 j2 (L.length - eat L) (q + eat L) false) vo O (dec true q L) A1 w1 HL1.out HS1.out HO.out HDL2.out.symm HTL.out hb1 hg (by have := HDL.out; have := HDL2.out; omega) (by rw [HWW.out]; have := HEL.out; omega)).mono ?_
  rintro e2 w2 ⟨v, T, O', b, hgo, rfl, ho2, hc2, hf, ht⟩
  have HGO := Lib.hid hgo
  have HO2 := Lib.hid (Norm.own_mono ho2 HG.out.size)
  have HC2 := Lib.hid (HC1.out.trans hc2 (fun _ _ h => h))
  have HF := Lib.hid hf
  have HT := Lib.hid ht
  clear hgo ho2 hc2 hf ht
  cases b with
  | true =>
    go_wp2_with fail
    go_ret2
    exact ⟨v, T, O', true, HGO.out, rfl, HO2.out, HC2.out, (fun h => by cases h), fun h => HT.out (by first | trivial | exact h)⟩
  | false =>
    go_wp2_with fail
    go_ret2
    refine ⟨v, T, O', false, HGO.out, rfl, HO2.out, HC2.out, fun h => ?_, (fun h => by cases h)⟩
    obtain ⟨vo', a', hs, ho⟩ := HF.out (by first | trivial | exact h)
    rw [HWW.out] at hs
    refine ⟨vo', a', j0, j1, j2, hs, HK.out, fun g hg => ?_⟩
    rcases ho g hg with h | h
    · left; have := HG.out.size; omega
    · exact .inr h
theorem write_nil (m c : Nat) (A : Option Addr) (w : World) : Calls Tryd.prog 11 #[.pointer none, .slice A m c] w fun e w' => e = .returned (.tuple #[.slice none 0 0, .int .i64 1]) ∧ w = w' := by
  go_enter Tryd.func11, Tryd.ntmps11
  go_wp2
  go_ret2
  exact ⟨rfl, rfl⟩
/-- behind the end -/
def Over (w : World) (er : Int) (e : Ending) (w' : World) : Prop := e = .returned (.tuple #[.slice none 0 0, .int .i64 er]) ∧ ∃ n, w' = w.drewN n
theorem write_done (sb m c : Nat) (A : Option Addr) (er : Int) (w : World) (h : Done w sb er) (he : er ≠ 0) : Calls Tryd.prog 11 #[.pointer (some ⟨sb, 0, none⟩), .slice A m c] w (Over w er) := by
  obtain ⟨lim, a, e, h⟩ := h
  have c5 := h.cell 5
  simp only [scs, List.getElem?_cons_succ, List.getElem?_cons_zero] at c5
  have hne : (er != 0) = true := by simpa using he
  clear h he
  go_enter Tryd.func11, Tryd.ntmps11
  go_wp2_with fail
  go_quiet (fail)
  go_wp2_with fail
  go_ret2
  exact ⟨rfl, _, rfl⟩
theorem close_nil (w : World) : Calls Tryd.prog 16 #[.pointer none] w fun e w' => e = .returned (.tuple #[.slice none 0 0, .int .i64 1]) ∧ w = w' := by
  go_enter Tryd.func16, Tryd.ntmps16
  go_wp2
  go_ret2
  exact ⟨rfl, rfl⟩
theorem close_done (sb : Nat) (er : Int) (w : World) (h : Done w sb er) (he : er ≠ 0) : Calls Tryd.prog 16 #[.pointer (some ⟨sb, 0, none⟩)] w (Over w er) := by
  obtain ⟨lim, a, e, h⟩ := h
  have c5 := h.cell 5
  simp only [scs, List.getElem?_cons_succ, List.getElem?_cons_zero] at c5
  have hne : (er != 0) = true := by simpa using he
  clear h he
  go_enter Tryd.func16, Tryd.ntmps16
  go_wp2_with fail
  go_quiet (fail)
  go_wp2_with fail
  go_ret2
  exact ⟨rfl, _, rfl⟩

/-! ### Close -/
def Closes (w : World) (sb db lim : Nat) (vo : Value) (O : List Pt) (ps : List Pt) (e : Ending) (w' : World) : Prop :=
  ∃ v T O' b, go opP flen lim [] O ps = (T, O', b) ∧ e = .returned (.tuple #[v, .int .i64 (if b then 6 else 0)]) ∧ Chg w w' (Hers sb db vo) ∧
    (b = false → w'.ownsRow w.heap.size 58 3 v ((shut (T, O')).map sgOf).length (sgs ((shut (T, O')).map sgOf)) ∧ Done w' sb 8) ∧
    (b = true → w'.ownsRow w.heap.size 58 3 v (T.map sgOf).length (sgs (T.map sgOf)) ∧ Done w' sb 6)
theorem shut_two (T : List (List Pt)) (O : List Pt) : shut (T, O) = T ++ shut ([], O) := by have := shut_pre T (([], O) : List (List Pt) × List Pt); simpa using this
theorem last_tile (n q : Nat) : Tile q (last n q) ∧ ww (last n q) = n := by
  unfold last
  split
  · rename_i h; exact ⟨trivial, by rw [ww_nil, h]⟩
  · rename_i h; exact ⟨⟨rfl, by show 1 ≤ n; omega, trivial⟩, by simp [ww]⟩
set_option maxHeartbeats 4000000 in
theorem close_any (base sb db lim a n q : Nat) (k0 k1 k2 : UInt8) (vo : Value) (O : List Pt) (w : World) (hL : Laid w) (hS : Sm w base sb db lim (dcs k0 k1 k2 n q false) vo O a q)
    (hb : base ≤ w.heap.size) (hg : 2 < base) (hsm : flen O + 3 ≤ 1073741824) (hq : q + n ≤ 1073741824) :
    Calls Tryd.prog 16 #[.pointer (some ⟨sb, 0, none⟩)] w (Closes w sb db lim vo O (last n q)) := by
  have HW := Lib.hid (shut_dec db n q k0 k1 k2 false w hS.dec)
  have hll := last_len n q
  obtain ⟨htl, hww⟩ := last_tile n q
  have c1 := hS.blk.cell 1
  have c5 := hS.blk.cell 5
  simp only [scs, List.getElem?_cons_succ, List.getElem?_cons_zero] at c1 c5
  have HS := Lib.hid hS
  have HL := Lib.hid hL
  have HSH := Lib.hid shut_two
  obtain ⟨ps, hps⟩ : ∃ ps, ps = last n q := ⟨_, rfl⟩
  rw [← hps] at hll htl hww ⊢
  have HPS := Lib.hid hps
  have HTL := Lib.hid htl; have HWW := Lib.hid hww
  obtain ⟨dl, hdl⟩ : ∃ dl, dl = ps.length := ⟨_, rfl⟩
  rw [← hdl] at hll
  have HDL := Lib.hid hdl
  clear hS hL htl hww hdl hps
  go_enter Tryd.func16, Tryd.ntmps16
  go_wp2_with fail
  refine HW.out.mono ?_
  rintro e1 w1 ⟨v1, rfl, hown, hD, hgr⟩
  rw [← HPS.out] at hown
  obtain ⟨A1, ca1, rfl, _⟩ := Utf.own_form hown
  rw [← HDL.out] at hown ⊢
  have HS1 := Lib.hid (HS.out.turn hgr hD)
  have HG := Lib.hid hgr
  have HO := Lib.hid hown
  have HC1 := Lib.hid ((Chg.refl w (Hers sb db vo)).grown hgr (fun i _ h => .inr (.inl (by injection h with h; exact h.symm))))
  have HL1 := Lib.hid (HL.out.below (HC1.out.below hb (fun i hi => HS.out.hers hi)) hg)
  have hb1 : base ≤ w1.heap.size := Nat.le_trans hb hgr.size
  clear hown hD hgr c1 c5 HW
  go_wp2_with fail
  refine (take_any base sb db lim a q dl ca1 w.heap.size (dcs k0 k1 k2 0 q true) vo O ps A1 w1 HL1.out HS1.out HO.out HDL.out.symm HTL.out hb1 hg (by omega) (by rw [HWW.out]; omega)).mono ?_
  rintro e2 w2 ⟨v, T, O', b, hgo, rfl, ho2, hc2, hf, ht⟩
  have HGO := Lib.hid hgo
  have HO2 := Lib.hid ho2
  have HC2 := Lib.hid (HC1.out.trans hc2 (fun _ _ h => h))
  have HF := Lib.hid hf
  have HT := Lib.hid ht
  have hs12 := hc2.size
  clear hgo hc2 hf ht
  cases b with
  | true =>
    clear ho2 hs12
    go_wp2_with fail
    go_ret2
    exact ⟨v, T, O', true, HGO.out, rfl, HC2.out, (fun h => by cases h), fun _ => ⟨Norm.own_mono HO2.out HG.out.size, HT.out (by first | trivial | rfl)⟩⟩
  | false =>
    obtain ⟨vo', a', hs, ho⟩ := HF.out (by first | trivial | rfl)
    obtain ⟨TS, hTS⟩ : ∃ TS, TS = T.map sgOf := ⟨_, rfl⟩
    rw [← hTS] at ho2
    have HTS := Lib.hid hTS
    obtain ⟨A2, c2, rfl, _⟩ := Utf.own_form ho2
    have hb2 := HC2.out.below hb (fun i hi => HS.out.hers hi)
    have hL2 := HL.out.below hb2 hg
    have hof := go_open HGO.out
    have hgl := go_len opP flen lim ps [] O
    rw [HGO.out] at hgl
    have hTm : TS.length ≤ 1073741824 := by rw [hTS, List.length_map]; have := HDL.out; simp at hgl; omega
    have HTE := Lib.hid (tell_any w1.heap.size base sb db lim (dcs k0 k1 k2 0 q true) vo' (.slice A2 TS.length c2) TS O' a' (q + ww ps) w2 hL2 hs ho2 hs12 (by have := HDL.out; omega) hTm)
    have HS12 := Lib.hid hs12
    have HS2 := Lib.hid hs
    have HORG := Lib.hid ho
    have HTO := Lib.hid ho2
    clear hTS hs ho ho2 hb2 hL2 hof hgl hTm HO2 HT hs12
    go_wp2_with fail
    refine HTE.out.mono ?_
    rintro e3 w3 ⟨v', vo'', rfl, ho3, hS3, hc3, hv3, ha3⟩
    rw [HTS.out, ← List.map_append, ← HSH.out] at ho3
    have HO3 := Lib.hid ho3
    have HS3 := Lib.hid hS3
    have HC3 := Lib.hid (HC2.out.trans hc3 (fun i hi h => by
      rcases h with h | h
      · exact .inl h
      · have := (HTO.out.lt i h).1; have := HG.out.size; omega))
    clear ho3 hS3 hc3 hv3 ha3 HTE
    go_wp2_with fail
    refine (stop_any sb lim 0 8 _ _ _ _ w3 HS3.out.blk).mono ?_
    rintro e4 w4 ⟨rfl, hD4, hC4⟩
    have HD4 := Lib.hid hD4
    have HO4 := Lib.hid (Norm.own_mono (Norm.own_keep HO3.out hC4 (fun g hg h => own_ne HO3.out HS3.out.blk (by decide) (h ▸ hg))) HG.out.size)
    have HC4 := Lib.hid (HC3.out.trans hC4 (fun i _ h => .inl h))
    clear hD4 hC4
    go_wp2_with fail
    go_ret2
    exact ⟨v', T, O', false, HGO.out, rfl, HC4.out, (fun _ => ⟨HO4.out, HD4.out⟩), (fun h => by cases h)⟩
end Go.Proofs.YtbljomfofgocaaaDoor.Seg
