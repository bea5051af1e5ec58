/-
  CONTRACTS OF illFormed, points, first, and of what they call of slices.
-/
import Derived.Test.YtipcbiecdabihaaGreatSsetLib
import Derived.Test.YtipcbiecdabihaaGreatRsetHas
namespace Go.Proofs.YtipcbiecdabihaaGreat.Sset
open Go.RowKit
open Utf (Rd Blk bys bys_len pts pts_len pts_get pts_one dec decode_any Pts Pt bad3 pieces dec_step wid_le wid rune fix vld vld_iff)
open Rset
set_option maxRecDepth 100000

theorem ill_key (r p d : Nat) (x : Tx) (b : Bool) (h : b = (decide (r = 65533) && !decide ((x.drop p).take d = bad3))) : Ending.returned (.bool b) = .returned (.bool (ill x ⟨r, p, d⟩)) := by rw [h]; rfl
set_option maxHeartbeats 1000000 in
theorem ill_any (X : ByteArray) (x : Tx) (hX : X.toList = x) (r p d : Nat) (hp : p + d ≤ x.length) (hl : x.length ≤ 1099511627770) (w : World) :
    Calls Tryz.prog 68 #[.string X, .agg #[.int .i32 r, .int .i64 p, .int .i64 d]] w (Ret w (.bool (ill x ⟨r, p, d⟩))) := by
  obtain ⟨Y, hY⟩ : ∃ Y : ByteArray, Y = ⟨((x.drop p).take d).toArray⟩ := ⟨_, rfl⟩
  have hs : X.size = x.length := size_of hX
  have e1 : IntKind.i64.wrap ((p : Int) + d) = (p : Int) + d := IntWalk.i64_in _ (by omega)
  have hsl : ∀ u : World, (Instr.slice 9 (.string X) (some (.int .i64 p)) (some (.int .i64 ((p : Int) + d))) none).run Tryz.prog u = .ok (.string Y) u := fun u => by
    rw [run_slice_string u _ X .i64 .i64 p (p + d) Tryz.underlying9 (by omega) (by omega) (by omega), hY, toList_mk hX, ByteArray.extract_mk]
    have h1 : ((p : Int)).toNat = p := by omega
    have h2 : ((p : Int) + d).toNat - p = d := by omega
    rw [h1, h2]
  have HY := Lib.hid (show Y.toList = (x.drop p).take d by rw [hY, mk_toList])
  clear hs hp hl hX hY
  by_cases h : r = 65533
  · subst h
    go_enter Tryz.func68, Tryz.ntmps68
    go_wp2_with fail
    go_ret
    exact ⟨ill_key _ _ _ _ _ (by rw [HY.out]; unfold bad3; by_cases h : List.take d (List.drop p x) = [239, 191, 189] <;> simp [h]), (Below.refl _ _).alloc (Nat.le_refl _) _⟩
  · have hd : ((r : Int) == 65533) = false := by rw [beq_eq_false_iff_ne]; omega
    have HD := Lib.hid (decide_eq_false h)
    clear h
    go_enter Tryz.func68, Tryz.ntmps68
    go_wp2_with fail
    go_ret
    exact ⟨ill_key _ _ _ _ _ (by rw [HD.out]; rfl), (Below.refl _ _).alloc (Nat.le_refl _) _⟩

set_option maxHeartbeats 1000000 in
theorem points1_any (X : ByteArray) (x : Tx) (hX : X.toList = x) (r p d gb : Nat) (hp : p + d ≤ x.length) (hl : x.length ≤ 1099511627770) (w : World) (hc : w.cell? ⟨gb, 0, none⟩ = some (.string X)) (hg : gb < w.heap.size) :
    Calls Tryz.prog 67 #[.agg #[.int .i32 r, .int .i64 p, .int .i64 d], .pointer (some ⟨gb, 0, none⟩)] w (Ret w (.bool (ill x ⟨r, p, d⟩))) := by
  have HI := Lib.hid (ill_any X x hX r p d hp hl)
  clear hX hp hl
  generalize ill x ⟨r, p, d⟩ = b at HI ⊢
  go_enter Tryz.func67, Tryz.ntmps67
  go_wp2_with fail
  refine (HI.out _).mono ?_
  rintro e w1 ⟨rfl, hb⟩
  have HB := Lib.hid (((Below.refl w.heap.size w).alloc (Nat.le_refl _) (.cells #[.int .i32 r, .int .i64 p, .int .i64 d] 58)).trans (hb.mono (by simp)))
  clear hb
  go_wp2_with fail
  go_ret
  exact ⟨rfl, HB.out⟩

theorem dec_in (l : Tx) : ∀ k, ∀ q ∈ dec false k l, k ≤ q.p ∧ q.p + q.w ≤ k + l.length := by
  refine pieces (P := fun l => ∀ k, ∀ q ∈ dec false k l, k ≤ q.p ∧ q.p + q.w ≤ k + l.length) (fun k q h => by simp [Utf.dec_nil] at h) (fun l hl ih k q h => ?_) l
  rw [dec_step false k hl (by simp)] at h
  have hw := wid_le l
  rcases List.mem_cons.1 h with rfl | h
  · exact ⟨Nat.le_refl _, by show k + wid l ≤ _; omega⟩
  · have := ih (k + wid l) q h
    rw [List.length_drop] at this
    omega
theorem any_take {l : List Pt} {x : Tx} {k : Nat} (hk : k < l.length) : (l.take (k + 1)).any (ill x) = ((l.take k).any (ill x) || ill x l[k]) := by
  rw [List.take_succ_eq_append_getElem hk, List.any_append]; simp
/-- a place, or -1 -/
theorem any_of_get {l : List Pt} {x : Tx} {k : Nat} (hk : k < l.length) (h : ill x l[k] = true) : l.any (ill x) = true := by
  rw [List.any_eq_true]; exact ⟨_, List.getElem_mem hk, h⟩
set_option maxHeartbeats 2000000 in
theorem pindex_any (A : Option Addr) (l : List Pt) (n c gb : Nat) (X : ByteArray) (x : Tx) (hX : X.toList = x) (hq : ∀ q ∈ l, q.p + q.w ≤ x.length) (hl : x.length ≤ 1099511627770) (w : World) (ha : Rd w w.heap.size A (pts l)) (hn : l.length = n) (hn1 : n ≤ 1099511627776) (hc : w.cell? ⟨gb, 0, none⟩ = some (.string X)) (hg : gb < w.heap.size) :
    Calls Tryz.prog 87 #[.slice A n c, .func (.func 67) #[] #[.pointer (some ⟨gb, 0, none⟩)]] w (fun e w' => ∃ i : Int, e = .returned (.int .i64 i) ∧ decide (0 ≤ i) = l.any (ill x) ∧ Below w.heap.size w w') := by
  have eg : ∀ args w, (callFunc 67 args).run Tryz.prog w = .ok (.enter 67 args) w := enters_of Tryz.func67 (by kernel_rfl) rfl
  have HA := Lib.hid ha; have HN := Lib.hid hn; have HC := Lib.hid hc; have HG := Lib.hid hg; have HX := Lib.hid hX; have HQ := Lib.hid hq; have HL := Lib.hid hl
  clear ha hn hc hg hX hq hl
  go_enter Tryz.func87, Tryz.ntmps87
  go_wp2_with fail
  go_loopw [8] (fun i wr => ∃ k : Nat, k ≤ n ∧ i = .int .i64 k ∧ Hid ((l.take k).any (ill x) = false) ∧ Hid (Below w.heap.size w wr)) (fun i _ => n - (intOf i).toNat)
  case atStart => exact ⟨0, Nat.zero_le _, rfl, Lib.hid rfl, Lib.hid (Below.refl _ _)⟩
  case round =>
    obtain ⟨k, hk, rfl, HT, HW⟩ := hrel
    by_cases hlt : k < n
    · have hkl : k < l.length := by rw [HN.out]; exact hlt
      have hR2 := HA.out.below HW.out
      obtain ⟨b, o, rfl, hb⟩ := hR2.form (by rw [pts_len]; omega)
      obtain ⟨c1, c2, c3⟩ := hR2.pt hkl
      have HTK := Lib.hid (any_take (x := x) hkl)
      have HON := Lib.hid (fun h => any_of_get (x := x) hkl h)
      have hqk := HQ.out _ (List.getElem_mem hkl)
      generalize l[k] = q at *
      obtain ⟨r, p, d⟩ := q
      dsimp only at *
      have HF := Lib.hid (points1_any X x HX.out r p d gb hqk HL.out wr ((HW.out.cell (p := ⟨gb, 0, none⟩) HG.out).trans HC.out) (Nat.lt_of_lt_of_le HG.out HW.out.size))
      clear hR2 hkl hqk
      cases hb : ill x ⟨r, p, d⟩ with
      | true =>
        rw [hb] at HF
        have HE := Lib.hid (HON.out hb)
        clear hb
        go_wp2_with (go_at_fn 67; refine HF.out.mono ?_; rintro e w1 ⟨rfl, hb1⟩; have HB1 := Lib.hid (HW.out.trans (hb1.mono HW.out.size)); clear hb1)
        go_ret
        refine ⟨k, rfl, ?_, HB1.out⟩
        rw [HE.out, decide_eq_true_eq]; omega
      | false =>
        rw [hb] at HF
        have HE := Lib.hid (show (l.take (k + 1)).any (ill x) = false by rw [HTK.out, HT.out, hb]; rfl)
        clear hb
        go_wp2_with (go_at_fn 67; refine HF.out.mono ?_; rintro e w1 ⟨rfl, hb1⟩; have HB1 := Lib.hid (HW.out.trans (hb1.mono HW.out.size)); clear hb1)
        go_roundw
        case rel => exact ⟨k + 1, by omega, by go_num, HE, HB1⟩
        case measure => simp [intOf]; omega
    · have HE := Lib.hid (show l.any (ill x) = false by
        have := HT.out
        rwa [List.take_of_length_le (by have := HN.out; omega)] at this)
      go_wp2_with fail
      go_ret
      refine ⟨-1, rfl, ?_, HW.out⟩
      rw [HE.out]; rfl
theorem pcontains_any (A : Option Addr) (l : List Pt) (n c gb : Nat) (X : ByteArray) (x : Tx) (hX : X.toList = x) (hq : ∀ q ∈ l, q.p + q.w ≤ x.length) (hl : x.length ≤ 1099511627770) (w : World) (ha : Rd w w.heap.size A (pts l)) (hn : l.length = n) (hn1 : n ≤ 1099511627776) (hc : w.cell? ⟨gb, 0, none⟩ = some (.string X)) (hg : gb < w.heap.size) :
    Calls Tryz.prog 66 #[.slice A n c, .func (.func 67) #[] #[.pointer (some ⟨gb, 0, none⟩)]] w (Ret w (.bool (l.any (ill x)))) := by
  have HC := Lib.hid (pindex_any A l n c gb X x hX hq hl w ha hn hn1 hc hg)
  clear ha hn hc hg hX hq hl
  go_enter Tryz.func66, Tryz.ntmps66
  go_wp2_with fail
  refine HC.out.mono ?_
  rintro e w1 ⟨i, rfl, hi, hb⟩
  have HI := Lib.hid hi; have HB := Lib.hid hb
  clear hi hb HC
  go_wp2_with fail
  go_ret
  exact ⟨ret_bool HI.out, HB.out⟩

/-- the code points of a well-formed text; of an ill-formed one nothing -/
def gpts (x : Tx) : List Pt := if good x then pnts x else []
theorem gpts_len (x : Tx) : (gpts x).length ≤ x.length := by
  unfold gpts
  split
  · exact Utf.dec_len_le false x 0
  · exact Nat.zero_le _
theorem gpts_ok (x : Tx) : decide ((gpts x).length < 2) = !okT x := by
  unfold gpts okT
  cases good x with
  | true => rw [if_pos rfl, Bool.true_and, Bool.eq_iff_iff]; simp
  | false => rfl
set_option maxHeartbeats 2000000 in
theorem points_any (X : ByteArray) (x : Tx) (hX : X.toList = x) (hl : x.length ≤ 1099511627770) (w : World) :
    Calls Tryz.prog 47 #[.string X] w (Pts w (gpts x)) := by
  obtain ⟨W0, hW0⟩ : ∃ W0, W0 = w.alloc (.cells #[.string X] 9) := ⟨_, rfl⟩
  have hb0 : Below w.heap.size w W0 := by rw [hW0]; exact (Below.refl _ _).alloc (Nat.le_refl _) _
  have hbk : Blk W0 w.heap.size 9 [.string X] := by rw [hW0]; exact Blk.new w _ [.string X]
  have hc0 : W0.cell? ⟨w.heap.size, 0, none⟩ = some (.string X) := hbk.cell 0
  obtain ⟨n, hn⟩ : ∃ n, x.length = n := ⟨_, rfl⟩
  obtain ⟨g, C, W1, hcv, hr1, hb1, hC1, hC2⟩ := conv_str W0 X x hX n hn (by omega)
  obtain ⟨gb, hgb⟩ : ∃ gb, gb = w.heap.size := ⟨_, rfl⟩
  rw [← hgb] at hbk hc0
  have hlt := hbk.lt
  have HD := Lib.hid (decode_any (some ⟨g, 0, none⟩) x n C W1 hr1 hn hC1 hC2 (by omega))
  have HNN := Lib.hid hn
  have HC0 := Lib.hid hc0; have HLT := Lib.hid hlt; have HX := Lib.hid hX; have HL := Lib.hid hl
  have HB1 := Lib.hid hb1; have HB0 := Lib.hid hb0
  have HG := Lib.hid (good_ill x)
  have HIN := Lib.hid (show ∀ q ∈ dec false 0 x, q.p + q.w ≤ x.length from fun q hq => by have := (dec_in x 0 q hq).2; omega)
  have hlen := Utf.dec_len_le false x 0
  rw [hn] at hlen
  have HGP := Lib.hid (show gpts x = if good x then dec false 0 x else [] from rfl)
  unfold pnts at HG
  generalize dec false 0 x = P at HD HG HIN hlen HGP
  have HW := Lib.hid hW0; have HGB := Lib.hid hgb
  clear hr1 hb1 hC1 hC2 hb0 hbk hX hl hlt hn hgb hW0
  go_enter Tryz.func47, Tryz.ntmps47
  go_wp2_with fail
  rw [← HW.out, ← HGB.out]
  go_wp2_with fail
  rw [hcv]
  go_wp2_with fail
  refine HD.out.mono ?_
  rintro e w2 ⟨v, rfl, ho, hb⟩
  have HO := Lib.hid ho
  obtain ⟨A2, c2, rfl, _, _, hr2⟩ := own_form ho
  have HB2 := Lib.hid (HB1.out.trans (hb.mono HB1.out.size))
  have HR2 := Lib.hid hr2
  have hlt2 : gb < w2.heap.size := Nat.lt_of_lt_of_le HLT.out HB2.out.size
  have hc2 := (HB2.out.cell (p := ⟨gb, 0, none⟩) HLT.out).trans HC0.out
  have HCC := Lib.hid (pcontains_any A2 P P.length c2 gb X x HX.out HIN.out HL.out w2 HR2.out rfl (by have := HL.out; have := HNN.out; omega) hc2 hlt2)
  clear ho hb hr2 hcv hc0
  go_wp2_with fail
  refine HCC.out.mono ?_
  rintro e w3 ⟨rfl, hb3⟩
  have HB3 := Lib.hid hb3
  have HBA := Lib.hid (HB0.out.trans ((HB2.out.trans (hb3.mono HB2.out.size)).mono HB0.out.size))
  have HS := Lib.hid (show w.heap.size ≤ W1.heap.size from Nat.le_trans HB0.out.size HB1.out.size)
  clear hb3 hc2
  cases hg : P.any (ill x) with
  | true =>
    have HE := Lib.hid (show gpts x = [] by rw [HGP.out, HG.out, hg]; rfl)
    clear hg
    go_wp2_with fail
    go_ret
    rw [HE.out]
    exact ⟨_, rfl, World.ownsRow_nil _ _ _ _, HBA.out⟩
  | false =>
    have HE := Lib.hid (show gpts x = P by rw [HGP.out, HG.out, hg]; rfl)
    clear hg
    go_wp2_with fail
    go_ret
    rw [HE.out]
    exact ⟨_, rfl, own_mono (own_below HO.out HB3.out) HS.out, HBA.out⟩

theorem norm1_any (X : ByteArray) (x : Tx) (hX : X.toList = x) (hl : x.length ≤ 1099511627770) (w : World) :
    Calls Tryz.prog 53 #[.string X] w (Ret w (.bool (!okT x))) := by
  have HP := Lib.hid (points_any X x hX hl w)
  have HK := Lib.hid (gpts_ok x)
  have hlen := gpts_len x
  clear hX
  generalize gpts x = P at *
  go_enter Tryz.func53, Tryz.ntmps53
  go_wp2_with fail
  refine HP.out.mono ?_
  rintro e w1 ⟨v, rfl, ho, hb⟩
  obtain ⟨A1, c1, rfl, _, _, _⟩ := own_form ho
  have HB := Lib.hid hb
  clear ho hb
  go_wp2_with fail
  go_ret
  exact ⟨ret_bool (by rw [← HK.out]; first | rfl | (rw [decide_eq_decide]; omega)), HB.out⟩

theorem fst_key {t : Tx} (h : t ≠ []) : (dec false 0 (t.take 4)) = ⟨rune t, 0, wid t⟩ :: dec false (wid t) ((t.take 4).drop (wid t)) := by
  have hne : t.take 4 ≠ [] := by cases t with | nil => exact absurd rfl h | cons c r => simp
  rw [dec_step false 0 hne (by simp), wid_take4, rune_take4, Nat.zero_add]
set_option maxHeartbeats 2000000 in
theorem first_any (X : ByteArray) (x : Tx) (hX : X.toList = x) (hne : x ≠ []) (hl : x.length ≤ 1099511627770) (w : World) :
    Calls Tryz.prog 37 #[.string X] w (Ret w (.tuple #[.int .i32 (fst x), .bool (two x)])) := by
  obtain ⟨y, hy⟩ : ∃ y, y = x.take 4 := ⟨_, rfl⟩
  obtain ⟨Y, hY⟩ : ∃ Y : ByteArray, Y = ⟨y.toArray⟩ := ⟨_, rfl⟩
  obtain ⟨N, hN⟩ : ∃ N, X.size = N := ⟨_, rfl⟩
  have hs : N = x.length := by rw [← hN]; exact size_of hX
  have hp : 0 < x.length := List.length_pos_iff.2 hne
  obtain ⟨m, hm⟩ : ∃ m, y.length = m := ⟨_, rfl⟩
  have hm4 : m = min 4 N := by rw [← hm, hy, List.length_take, hs]
  have hext : X.extract 0 (min 4 N) = Y := by
    rw [toList_mk hX, ByteArray.extract_mk, hY, hy, Nat.sub_zero, List.drop_zero]
    have h5 : x.take (min 4 N) = x.take 4 := by rw [List.take_eq_take_iff]; omega
    rw [h5]
  have HX := Lib.hid (show X.extract 0 (min 4 (N : Int)).toNat = Y by rw [show (min 4 (N : Int)).toNat = min 4 N by omega]; exact hext)
  obtain ⟨g, C, W1, hcv, hr1, hb1, hC1, hC2⟩ := conv_str w Y y (by rw [hY, mk_toList]) m hm (by omega)
  have HD := Lib.hid (decode_any (some ⟨g, 0, none⟩) y m C W1 hr1 hm hC1 hC2 (by omega))
  have HK := Lib.hid (fst_key hne)
  rw [hy] at HD
  rw [HK.out] at HD
  have HT := Lib.hid (show two x = decide (wid x < N) by rw [hs]; rfl)
  have hw4 := Utf.wid_four x
  have HF := Lib.hid (show fst x = (rune x : Int) from rfl)
  rw [HF.out, HT.out]
  generalize rune x = r at *
  generalize wid x = d at *
  generalize dec false d ((x.take 4).drop d) = P at *
  have HB1 := Lib.hid hb1
  have hm5 : m ≤ 4 := by omega
  have HN := Lib.hid hN
  have HE := Lib.hid hs
  have hbb : N ≤ 1099511627770 := by omega
  clear hr1 hb1 hC1 hC2 hl hX hY hm hy hs hp hne hext hm4
  go_enter Tryz.func37, Tryz.ntmps37
  go_wp2_with fail
  rw [HX.out, hcv]
  go_wp2_with fail
  refine HD.out.mono ?_
  rintro e w2 ⟨v, rfl, ho, hb⟩
  obtain ⟨A2, c2, rfl, _, _, hr2⟩ := own_form ho
  obtain ⟨b, o, rfl, hbl⟩ := hr2.form (by rw [pts_len]; simp)
  obtain ⟨p1, p2, p3⟩ := hr2.pt (k := 0) (by simp)
  simp only [List.getElem_cons_zero, Nat.zero_mul, Nat.add_zero] at p1 p2 p3
  have hq0 : 1 ≤ ((⟨r, 0, d⟩ : Pt) :: P).length := by simp
  generalize ((⟨r, 0, d⟩ : Pt) :: P).length = q at *
  have HB2 := Lib.hid (HB1.out.trans (hb.mono HB1.out.size))
  clear ho hb hr2 hcv hm5 hw4 HD HK
  go_wp2_with fail
  go_quiet (fail)
  go_wp2_with fail
  go_ret2
  exact ⟨rfl, below_drewN (HB2.out.alloc HB2.out.size _) _⟩
end Go.Proofs.YtipcbiecdabihaaGreat.Sset
