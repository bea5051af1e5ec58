/-
  CONTRACTS OF Split, Texts, Same.
-/
import Derived.Test.YtbljomfofgocaaaDoorSegSplit
namespace Go.Proofs.YtbljomfofgocaaaDoor.Seg
open Go.Shelf Go.RowKit Go.Sort
open Utf hiding infoI32 rd_new own_form rdec_any below_drewN new_any write_any close_any
open Ucd hiding grow same Told
open Norm hiding new_any write_any close_any pending_any pending_nil write_nil write_closed close_nil
set_option maxRecDepth 100000

/-! ### Split -/
def spS (lim : Int) (l : List UInt8) : List Sg := if 1 ≤ lim ∧ lim ≤ 64 then (okS lim.toNat l).map sgOf else []
def spE (lim : Int) (l : List UInt8) : Int := if 1 ≤ lim ∧ lim ≤ 64 then (if badS lim.toNat l then 6 else 0) else 1
def SplitAns (w : World) (lim : Int) (l : List UInt8) (e : Ending) (w' : World) : Prop :=
  ∃ v, e = .returned (.tuple #[v, .int .i64 (spE lim l)]) ∧ w'.ownsRow w.heap.size 58 3 v (spS lim l).length (sgs (spS lim l)) ∧ Below w.heap.size w w'
set_option maxHeartbeats 4000000 in
theorem split_any (lim : Int) (l : List UInt8) (A : Option Addr) (m c : Nat) (w : World) (hL : Laid w)
    (hr : Rd w w.heap.size A (bys l)) (hm : l.length = m) (hc : m ≤ c) (hcm : c ≤ 9223372036854775807) (hsm : m ≤ 134217728) :
    Calls Tryd.prog 30 #[.slice A m c, .int .i64 lim] w (SplitAns w lim l) := by
  have HR := Lib.hid hr; have HL := Lib.hid hL; have HM := Lib.hid hm
  by_cases hlim : 1 ≤ lim ∧ lim ≤ 64
  · obtain ⟨lm, rfl⟩ : ∃ lm : Nat, lim = lm := ⟨lim.toNat, by omega⟩
    have HN := Lib.hid (new_good lm w hlim.1 hlim.2)
    have HE := Lib.hid (show spE lm l = if badS lm l then 6 else 0 by unfold spE; rw [if_pos hlim]; rfl)
    have HS := Lib.hid (show spS lm l = (okS lm l).map sgOf by unfold spS; rw [if_pos hlim]; rfl)
    clear hr hL hm hlim
    go_enter Tryd.func30, Tryd.ntmps30
    go_wp2_with fail
    refine HN.out.mono ?_
    rintro e1 w1 ⟨sb, db, rfl, hS, hb⟩
    have HSM := Lib.hid (live_new hS)
    have HB := Lib.hid hb
    have HL1 := Lib.hid (HL.out.next hb)
    have HW := Lib.hid (whole_any w.heap.size sb db lm m c (.slice none 0 0) l A w1 HL1.out HSM.out ((HR.out.below hb).more hb.size) HM.out hc hcm hb.size HL.out.size hsm)
    clear hS hb
    go_wp2_with fail
    refine HW.out.mono ?_
    rintro e2 w2 ⟨v, rfl, ho, hb2⟩
    have HO := Lib.hid ho
    have HB2 := Lib.hid hb2
    clear ho hb2
    cases hbb : badS lm l
    all_goals
      have HBB := Lib.hid hbb
      clear hbb
      go_wp2_with fail
      go_ret2
      refine ⟨v, by rw [HE.out, HBB.out]; rfl, ?_, HB.out.trans HB2.out⟩
      rw [HS.out]
      exact Norm.own_mono HO.out HB.out.size
  · have HN := Lib.hid (new_bad lim w (by omega))
    have HE := Lib.hid (show spE lim l = 1 by unfold spE; rw [if_neg hlim])
    have HS := Lib.hid (show spS lim l = [] by unfold spS; rw [if_neg hlim])
    clear hr hL hm hlim
    go_enter Tryd.func30, Tryd.ntmps30
    go_wp2_with fail
    refine HN.out.mono ?_
    rintro e1 w1 ⟨rfl, rfl⟩
    go_wp2_with fail
    go_ret2
    exact ⟨.slice none 0 0, by rw [HE.out]; rfl, by rw [HS.out]; exact World.ownsRow_nil _ _ _ _, Below.refl _ _⟩

/-! ### Texts -/
def TextsAns (w : World) (ts : List ByteArray) (e : Ending) (w' : World) : Prop :=
  ∃ v, e = .returned v ∧ w'.ownsRow w.heap.size 9 1 v ts.length (strs ts) ∧ Below w.heap.size w w'
theorem ok_all {lim : Nat} {l : List UInt8} (h : 3 * l.length ≤ lim) : okS lim l = grp (dec false 0 l) ∧ badS lim l = false := by
  refine okG_all flen lim fun g hg => ?_
  have h1 := flen_le g
  have h2 := dec_len_le false l 0
  have h3 : g.length ≤ (grp (dec false 0 l)).flatten.length := (List.sublist_flatten_of_mem hg).length_le
  rw [grp, cuts_flat] at h3
  omega
set_option maxHeartbeats 4000000 in
theorem texts_any (l : List UInt8) (A : Option Addr) (m c : Nat) (w : World) (hL : Laid w)
    (hr : Rd w w.heap.size A (bys l)) (hm : l.length = m) (hc : m ≤ c) (hcm : c ≤ 9223372036854775807) (hsm : m ≤ 134217728) :
    Calls Tryd.prog 32 #[.slice A m c] w (TextsAns w (texts l)) := by
  obtain ⟨i0, hi, hz0, hz1, hz2⟩ := info_parts infoStr
  have HR := Lib.hid hr; have HL := Lib.hid hL; have HM := Lib.hid hm
  obtain ⟨lm, hlm⟩ : ∃ lm : Nat, (lm : Int) = 9223372036854775807 := ⟨9223372036854775807, rfl⟩
  obtain ⟨h1, h2⟩ := ok_all (lim := lm) (l := l) (by omega)
  have HBN := Lib.hid (begin_any lm w)
  rw [hlm] at HBN
  have HLM := Lib.hid hlm
  have HOK := Lib.hid (show (okS lm l).map sgOf = (grp (dec false 0 l)).map sgOf by rw [h1])
  have HBD := Lib.hid h2
  have HTX := Lib.hid (show texts l = ((grp (dec false 0 l)).map sgOf).map Sg.t by rw [List.map_map]; rfl)
  have hol : ((grp (dec false 0 l)).map sgOf).length ≤ m := by rw [List.length_map, ← hm]; exact grp_len false l
  generalize (grp (dec false 0 l)).map sgOf = S at HOK HTX hol
  generalize texts l = TX at HTX ⊢
  obtain ⟨B0, hB0⟩ : ∃ B0, B0 = w.heap.size := ⟨_, rfl⟩
  have HB0 := Lib.hid hB0
  clear hr hL hm hlm h1 h2 hB0
  go_enter Tryd.func32, Tryd.ntmps32
  go_wp2_with fail
  refine HBN.out.mono ?_
  rintro e1 w1 ⟨sb, db, rfl, hS, hb⟩
  rw [← HLM.out] at hS
  have HB := Lib.hid hb
  have HL1 := Lib.hid (HL.out.next hb)
  have HW := Lib.hid (whole_any w.heap.size sb db lm m c (.slice none 0 0) l A w1 HL1.out (live_new hS) ((HR.out.below hb).more hb.size) HM.out hc hcm hb.size HL.out.size hsm)
  clear hS hb
  go_wp2_with fail
  refine HW.out.mono ?_
  rintro e2 w2 ⟨v, rfl, ho, hb2⟩
  rw [HOK.out] at ho
  rw [HBD.out]
  obtain ⟨A1, c1, rfl, _, _, hr1⟩ := own_form ho
  have HR1 := Lib.hid hr1
  have HB1 := Lib.hid (show Below B0 w w2 by rw [HB0.out]; exact HB.out.trans hb2)
  obtain ⟨n, hn⟩ : ∃ n, n = S.length := ⟨_, rfl⟩
  rw [← hn] at hol ⊢
  have HN := Lib.hid hn
  clear ho hb2 hr1 hn HW
  go_wp2_with fail
  go_loopw [5, 16] (fun vo i wr => ∃ k : Nat, k ≤ n ∧ i = .int .i64 k ∧ Hid (wr.ownsRow w2.heap.size 9 1 vo ((S.take k).map Sg.t).length (strs ((S.take k).map Sg.t))) ∧ Hid (Below w2.heap.size w2 wr)) (fun _ i _ => n - (intOf i).toNat)
  case atStart => exact ⟨0, Nat.zero_le _, rfl, Lib.hid (World.ownsRow_nil _ _ _ _), Lib.hid (Below.refl _ _)⟩
  case round =>
    obtain ⟨k, hk, rfl, HO, HB⟩ := hrel
    by_cases hlt : k < n
    · have hkl : k < S.length := by rw [← HN.out]; exact hlt
      obtain ⟨b, o, rfl, hbl⟩ := HR1.out.form (by rw [sgs_len]; omega)
      obtain ⟨p1, p2, p3⟩ := Rd_sg (HR1.out.below HB.out) hkl
      have HT := Lib.hid (show (S.take (k + 1)).map Sg.t = (S.take k).map Sg.t ++ [S[k].t] by rw [List.take_succ_eq_append_getElem hkl, List.map_append]; rfl)
      have hlen : ((S.take k).map Sg.t).length = k := by rw [List.length_map, List.length_take]; omega
      generalize (S.take k).map Sg.t = L at HO HT hlen
      have hbw := HB.out.size
      rw [hlen] at HO
      have HLN := Lib.hid hlen
      obtain ⟨x, hx⟩ : ∃ x : ByteArray, x = S[k].t := ⟨_, rfl⟩
      obtain ⟨y, hy⟩ : ∃ y : Int, y = (S[k].a : Int) := ⟨_, rfl⟩
      obtain ⟨z, hz⟩ : ∃ z : Int, z = (S[k].e : Int) := ⟨_, rfl⟩
      rw [← hx] at p1 HT
      rw [← hy] at p2
      rw [← hz] at p3
      have hbk : k ≤ 134217728 := by omega
      clear hkl hx hy hz hlen hbl
      go_wp2_with (at_builtin; refine wpList_append_rd _ rfl (.tmp 20) (.tmp 23) _ rfl w2.heap.size 9 i0 _ 1 16 Tryd.underlying60 hi hz0 hz1 hz2 rfl (by decide) u5 k (strs L) rfl ((HO.out.alloc _).alloc _) _ (some ⟨wr.heap.size + 1, 0, none⟩) 1 1 [.string x] rfl rfl (rd_new _ _ [.string x] _ (by simp)) (strs_one [x]) (by unfold maxLen; omega) (by omega) (by simp; omega) ?_; intro v6 w6 hown6 hgr6 _)
      have HO6 := Lib.hid (show w6.ownsRow w2.heap.size 9 1 v6 ((S.take (k + 1)).map Sg.t).length (strs ((S.take (k + 1)).map Sg.t)) by
        rw [HT.out, List.length_append, HLN.out, strs_append]; exact hown6)
      have HB6 := Lib.hid (((HB.out.alloc hbw _).alloc (by simp; omega) _).grown hgr6 (by simp; omega) (fun g hg => (HO.out.lt g hg).1))
      clear hown6 hgr6 HO HT
      go_roundw
      case rel => exact ⟨k + 1, by omega, by go_num, HO6, HB6⟩
      case measure => simp [intOf]; omega
    · have HXT := Lib.hid (show S.take k = S by rw [List.take_of_length_le (by rw [← HN.out]; omega)])
      rw [HXT.out, ← HTX.out] at HO
      have hs2 : B0 ≤ w2.heap.size := by have := HB1.out.size; rw [HB0.out]; exact this
      go_wp2
      go_ret
      exact ⟨u5, rfl, Norm.own_mono HO.out (by rw [← HB0.out]; exact hs2), by rw [← HB0.out]; exact HB1.out.trans (HB.out.mono hs2)⟩

/-! ### Same -/
def sameT (a b : List UInt8) : Bool := decide (textF a = textF b)
theorem str_ne {a b : List UInt8} (h : a ≠ b) : ((⟨a.toArray⟩ : ByteArray).toList == (⟨b.toArray⟩ : ByteArray).toList) = false := by
  rw [beq_eq_false_iff_ne, ByteArray.toList_eq, ByteArray.toList_eq]
  simpa using h
theorem same_any (a b : List UInt8) (A B : Option Addr) (m c n d : Nat) (w : World) (hL : Laid w) (ha : Rd w w.heap.size A (bys a)) (hb : Rd w w.heap.size B (bys b)) (hm : a.length = m) (hc : m ≤ c) (hcm : c ≤ 9223372036854775807) (hn : b.length = n) (hd : n ≤ d) (hdm : d ≤ 9223372036854775807)
    (hsm : m ≤ 34359738368) (hsn : n ≤ 34359738368) : Calls Tryd.prog 31 #[.slice A m c, .slice B n d] w (Ret w (.bool (sameT a b))) := by
  have H1 := Lib.hid (text_any A a m c w hL ha hm hc hcm hsm)
  have H2 := Lib.hid (fun (u : World) (h : Laid u) (hr : Rd u u.heap.size B (bys b)) => text_any B b n d u h hr hn hd hdm hsn)
  have HL := Lib.hid hL
  have HRB := Lib.hid hb
  have HNE := Lib.hid (fun h : textF a ≠ textF b => str_ne h)
  obtain ⟨S1, hS1⟩ : ∃ S : ByteArray, S = ⟨(textF a).toArray⟩ := ⟨_, rfl⟩
  obtain ⟨S2, hS2⟩ : ∃ S : ByteArray, S = ⟨(textF b).toArray⟩ := ⟨_, rfl⟩
  rw [← hS1, ← hS2] at HNE
  rw [← hS1] at H1
  rw [← hS2] at H2
  have HS1 := Lib.hid hS1; have HS2 := Lib.hid hS2
  clear hL ha hb hm hn hc hd hS1 hS2
  by_cases he : textF a = textF b
  · have HV := Lib.hid (show sameT a b = true from decide_eq_true he)
    obtain rfl : S1 = S2 := by rw [HS1.out, HS2.out, he]
    have htt : (S1.toList == S1.toList) = true := by simp
    clear he
    go_enter Tryd.func31, Tryd.ntmps31
    go_wp2_with fail
    refine H1.out.mono ?_
    rintro e1 w1 ⟨rfl, hb1⟩
    have HB1 := Lib.hid hb1
    clear hb1
    go_wp2_with fail
    refine (H2.out w1 (HL.out.next HB1.out) ((HRB.out.below HB1.out).more HB1.out.size)).mono ?_
    rintro e2 w2 ⟨rfl, hb2⟩
    have HB2 := Lib.hid (HB1.out.trans (hb2.mono HB1.out.size))
    clear hb2
    go_wp2_with fail
    go_ret
    exact ⟨by rw [HV.out]; rfl, HB2.out⟩
  · have HV := Lib.hid (show sameT a b = false from decide_eq_false he)
    have hff := HNE.out he
    clear he HNE
    go_enter Tryd.func31, Tryd.ntmps31
    go_wp2_with fail
    refine H1.out.mono ?_
    rintro e1 w1 ⟨rfl, hb1⟩
    have HB1 := Lib.hid hb1
    clear hb1
    go_wp2_with fail
    refine (H2.out w1 (HL.out.next HB1.out) ((HRB.out.below HB1.out).more HB1.out.size)).mono ?_
    rintro e2 w2 ⟨rfl, hb2⟩
    have HB2 := Lib.hid (HB1.out.trans (hb2.mono HB1.out.size))
    clear hb2
    go_wp2_with fail
    go_ret
    exact ⟨by rw [HV.out]; rfl, HB2.out⟩
end Go.Proofs.YtbljomfofgocaaaDoor.Seg
