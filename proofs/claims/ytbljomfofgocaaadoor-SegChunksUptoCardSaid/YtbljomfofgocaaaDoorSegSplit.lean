/-
  A LIVE SEGMENTER, by the bytes that it was handed; CONTRACTS OF whole, Split, Texts, Same.
-/
import Derived.Test.YtbljomfofgocaaaDoorSegWrite
namespace Go.Proofs.YtbljomfofgocaaaDoor.Seg
open Go.Shelf Go.RowKit Go.Sort
open Utf hiding infoI32 rd_new own_form rdec_any below_drewN new_any write_any close_any
open Ucd hiding grow same Told
open Norm hiding new_any write_any close_any pending_any pending_nil write_nil write_closed close_nil
set_option maxRecDepth 100000

def okS (lim : Nat) (l : List UInt8) : List (List Pt) := okG flen lim (grp (dec false 0 l))
def badS (lim : Nat) (l : List UInt8) : Bool := badG flen lim (grp (dec false 0 l))
/-- a segmenter that was handed the bytes X, and has told T -/
def Live (w : World) (base sb db lim : Nat) (vo : Value) (X : List UInt8) (T : List (List Pt)) : Prop :=
  ∃ O a k0 k1 k2, go opP flen lim [] [] (dec true 0 X) = (T, O, false) ∧ Sm w base sb db lim (dcs k0 k1 k2 (X.length - eat X) (eat X) false) vo O a (eat X) ∧ kept k0 k1 k2 (X.length - eat X) = X.drop (eat X)
theorem live_new {w : World} {base sb db lim : Nat} (h : Sm w base sb db lim (dcs 0 0 0 0 0 false) (.slice none 0 0) [] 0 0) : Live w base sb db lim (.slice none 0 0) [] [] := ⟨[], 0, 0, 0, 0, rfl, h, rfl⟩
section
variable {w w' : World} {base sb db lim : Nat} {vo : Value} {X : List UInt8} {T : List (List Pt)}
theorem Live.hers (h : Live w base sb db lim vo X T) {k : Nat} (hk : k < base) : ¬ Hers sb db vo k := by obtain ⟨O, a, k0, k1, k2, _, hs, _⟩ := h; exact hs.hers hk
theorem Live.next (h : Live w base sb db lim vo X T) (hb : Below w.heap.size w w') : Live w' base sb db lim vo X T := by obtain ⟨O, a, k0, k1, k2, h1, hs, h2⟩ := h; exact ⟨O, a, k0, k1, k2, h1, hs.next hb, h2⟩
theorem Live.keep {S : Nat → Prop} (h : Live w base sb db lim vo X T) (hg : Chg w w' S) (h1 : ¬ S sb) (h2 : ¬ S db) (h3 : ∀ k, vo.ownBlock = some k → ¬ S k) : Live w' base sb db lim vo X T := by
  obtain ⟨O, a, k0, k1, k2, g1, hs, g2⟩ := h; exact ⟨O, a, k0, k1, k2, g1, hs.keep hg h1 h2 h3, g2⟩
/-- what holds no segmenter stays -/
theorem Live.apart (h : Live w base sb db lim vo X T) {bs : Nat} {e : TypeId} {size n : Nat} {v : Value} {xs : List Value} (ho : w.ownsRow bs e size v n xs) (h1 : e ≠ 65) (h2 : e ≠ 91) (h3 : e ≠ 21) :
    ∀ k, v.ownBlock = some k → ¬ Hers sb db vo k := by
  obtain ⟨O, a, k0, k1, k2, _, hs, _⟩ := h
  intro k hk hi
  rcases hi with rfl | rfl | hi
  · exact own_ne ho hs.blk h1 hk
  · exact own_ne ho hs.dec h2 hk
  · exact own_apart ho hs.own h3 k hk hi
/-- where nothing was too long: the segments of what is sure -/
theorem Live.all (h : Live w base sb db lim vo X T) : ∃ O, gfold opP ([], []) (dec true 0 X) = (T, O) ∧ shut (T, O) = grp (dec true 0 X) ∧ ∀ g ∈ grp (dec true 0 X), flen g ≤ lim := by
  obtain ⟨O, a, k0, k1, k2, g1, _, _⟩ := h
  obtain ⟨h1, h2, h3⟩ := (go_all opP flen lim flen_grows g1).1 rfl
  exact ⟨O, h2, h1, h3⟩
end
theorem go_on {lim : Nat} {a b : List Pt} {T Tn : List (List Pt)} {O O' : List Pt} {r : Bool} (h : go opP flen lim [] [] a = (T, O, false)) (h' : go opP flen lim [] O b = (Tn, O', r)) : go opP flen lim [] [] (a ++ b) = (T ++ Tn, O', r) := by
  rw [go_append, h]
  simp only [Bool.false_eq_true, if_false]
  have := go_pre opP flen lim T b [] O
  rw [List.append_nil, h'] at this
  exact this
/-- what a Write of a live segmenter answers -/
def LiveWrote (w : World) (base sb db lim : Nat) (vo : Value) (X l : List UInt8) (T : List (List Pt)) (e : Ending) (w' : World) : Prop :=
  ∃ v Tn b, e = .returned (.tuple #[v, .int .i64 (if b then 6 else 0)]) ∧ w'.ownsRow w.heap.size 58 3 v (Tn.map sgOf).length (sgs (Tn.map sgOf)) ∧ Chg w w' (Hers sb db vo) ∧
    (b = false → ∃ vo', Live w' base sb db lim vo' (X ++ l) (T ++ Tn) ∧ ∀ g, vo'.ownBlock = some g → w.heap.size ≤ g ∨ vo.ownBlock = some g) ∧
    (b = true → Done w' sb 6 ∧ ∀ c, okG flen lim (grp (dec true 0 (X ++ l) ++ c)) = T ++ Tn ∧ badG flen lim (grp (dec true 0 (X ++ l) ++ c)) = true)
theorem live_write (base sb db lim m c : Nat) (vo : Value) (X l : List UInt8) (T : List (List Pt)) (A : Option Addr) (w : World) (hL : Laid w) (h : Live w base sb db lim vo X T)
    (hr : Rd w w.heap.size A (bys l)) (hm : l.length = m) (hc : m ≤ c) (hcm : c ≤ 9223372036854775807) (hb : base ≤ w.heap.size) (hg : 2 < base) (hsm : X.length + m ≤ 268435456) :
    Calls Tryd.prog 11 #[.pointer (some ⟨sb, 0, none⟩), .slice A m c] w (LiveWrote w base sb db lim vo X l T) := by
  obtain ⟨O, a, k0, k1, k2, g1, hs, g2⟩ := h
  have h3 := rest_short X
  have hel := eat_le X
  have hfo := go_open g1
  have hdl := dec_len_le true X 0
  have hf0 : flen [] = 0 := rfl
  refine (write_any base sb db lim a m c (X.length - eat X) (eat X) k0 k1 k2 vo O A l w hL hs h3 hr hm hc hcm hb hg (by omega) (by omega)).mono ?_
  rw [g2]
  rintro e w' ⟨v, Tn, O', b, hgo, rfl, ho, hch, hf, ht⟩
  have hda := dec_append true X l 0
  rw [Nat.zero_add] at hda
  have hgo2 : go opP flen lim [] [] (dec true 0 (X ++ l)) = (T ++ Tn, O', b) := by rw [hda]; exact go_on g1 hgo
  have hea := eat_append X l
  have hle := eat_le (X.drop (eat X) ++ l)
  rw [List.length_append, List.length_drop] at hle
  have hn : (X.drop (eat X) ++ l).length - eat (X.drop (eat X) ++ l) = (X ++ l).length - eat (X ++ l) := by
    rw [hea, List.length_append, List.length_append, List.length_drop]; omega
  have hdr : (X.drop (eat X) ++ l).drop (eat (X.drop (eat X) ++ l)) = (X ++ l).drop (eat (X ++ l)) := by
    rw [hea, ← List.drop_drop, List.drop_append_of_le_length hel]
  refine ⟨v, Tn, b, rfl, ho, hch, fun hb => ?_, fun hb => ⟨ht hb, ?_⟩⟩
  · subst hb
    obtain ⟨vo', a', j0, j1, j2, hs', hk, hor⟩ := hf rfl
    rw [hn, ← hea] at hs'
    rw [hn, hdr] at hk
    exact ⟨vo', ⟨O', a', j0, j1, j2, hgo2, hs', hk⟩, hor⟩
  · subst hb
    exact (go_all opP flen lim flen_grows hgo2).2 rfl
/-- what its Close answers -/
def LiveClosed (w : World) (sb db lim : Nat) (vo : Value) (X : List UInt8) (T : List (List Pt)) (e : Ending) (w' : World) : Prop :=
  ∃ v Tn, e = .returned (.tuple #[v, .int .i64 (if badS lim X then 6 else 0)]) ∧ w'.ownsRow w.heap.size 58 3 v (Tn.map sgOf).length (sgs (Tn.map sgOf)) ∧ Chg w w' (Hers sb db vo) ∧ T ++ Tn = okS lim X ∧ Done w' sb (if badS lim X then 6 else 8)
theorem live_close (base sb db lim : Nat) (vo : Value) (X : List UInt8) (T : List (List Pt)) (w : World) (hL : Laid w) (h : Live w base sb db lim vo X T) (hb : base ≤ w.heap.size) (hg : 2 < base) (hsm : X.length ≤ 268435456) :
    Calls Tryd.prog 16 #[.pointer (some ⟨sb, 0, none⟩)] w (LiveClosed w sb db lim vo X T) := by
  obtain ⟨O, a, k0, k1, k2, g1, hs, g2⟩ := h
  have h3 := rest_short X
  have hel := eat_le X
  have hfo := go_open g1
  have hdl := dec_len_le true X 0
  have hf0 : flen [] = 0 := rfl
  refine (close_any base sb db lim a (X.length - eat X) (eat X) k0 k1 k2 vo O w hL hs hb hg (by omega) (by omega)).mono ?_
  rintro e w' ⟨v, Tn, O', b, hgo, rfl, hch, hf, ht⟩
  have hda := dec_close 0 X
  rw [Nat.zero_add] at hda
  have hgo2 : go opP flen lim [] [] (dec false 0 X) = (T ++ Tn, O', b) := by rw [hda]; exact go_on g1 hgo
  have hall := go_all opP flen lim flen_grows hgo2
  cases b with
  | false =>
    obtain ⟨e1, _, e3⟩ := hall.1 rfl
    obtain ⟨hok, hbad⟩ := okG_all flen lim (gs := grp (dec false 0 X)) e3
    have hbs : badS lim X = false := hbad
    obtain ⟨ho, hd⟩ := hf rfl
    refine ⟨v, shut (Tn, O'), by rw [hbs], ho, hch, ?_, by rw [hbs]; exact hd⟩
    show _ = okG flen lim (grp (dec false 0 X))
    rw [hok]
    have hp := shut_pre T (Tn, O')
    simp only at hp
    rw [← hp]
    exact e1
  | true =>
    obtain ⟨e1, e2⟩ := hall.2 rfl []
    rw [List.append_nil] at e1 e2
    have hbs : badS lim X = true := e2
    obtain ⟨ho, hd⟩ := ht rfl
    exact ⟨v, Tn, by rw [hbs], ho, hch, e1.symm, by rw [hbs]; exact hd⟩

/-! ### whole -/
def Wholes (w : World) (base lim : Nat) (l : List UInt8) (e : Ending) (w' : World) : Prop :=
  ∃ v, e = .returned (.tuple #[v, .int .i64 (if badS lim l then 6 else 0)]) ∧ w'.ownsRow w.heap.size 58 3 v ((okS lim l).map sgOf).length (sgs ((okS lim l).map sgOf)) ∧ Below base w w'
theorem dec_more (l : List UInt8) : ∃ c, dec false 0 l = dec true 0 l ++ c := ⟨_, dec_close 0 l⟩
theorem grp_len (o : Bool) (l : List UInt8) : (grp (dec o 0 l)).length ≤ l.length := by
  have h1 := cuts_flat opP (dec o 0 l)
  have h2 := dec_len_le o l 0
  have h3 : ∀ gs : List (List Pt), (∀ g ∈ gs, ∃ q t, g = q :: t) → gs.length ≤ gs.flatten.length := fun gs => by
    induction gs with
    | nil => simp
    | cons g t ih =>
      intro h
      obtain ⟨q, u, rfl⟩ := h g (by simp)
      have := ih fun g hg => h g (by simp [hg])
      simp only [List.length_cons, List.flatten_cons, List.length_append]
      omega
  have := h3 (grp (dec o 0 l)) (fun g hg => cuts_group opP hg)
  rw [grp, h1] at this
  exact Nat.le_trans this h2
theorem okS_len (lim : Nat) (l : List UInt8) : (okS lim l).length ≤ l.length := Nat.le_trans (List.takeWhile_sublist _).length_le (grp_len false l)
set_option maxHeartbeats 4000000 in
theorem whole_any (base sb db lim m c : Nat) (vo : Value) (l : List UInt8) (A : Option Addr) (w : World) (hL : Laid w) (h : Live w base sb db lim vo [] [])
    (hr : Rd w w.heap.size A (bys l)) (hm : l.length = m) (hc : m ≤ c) (hcm : c ≤ 9223372036854775807) (hb : base ≤ w.heap.size) (hg : 2 < base) (hsm : m ≤ 134217728) :
    Calls Tryd.prog 54 #[.pointer (some ⟨sb, 0, none⟩), .slice A m c] w (Wholes w base lim l) := by
  obtain ⟨i0, hi, hz0, hz1, hz2⟩ := info_parts infoSg
  have HW := Lib.hid (live_write base sb db lim m c vo [] l [] A w hL h hr hm hc hcm hb hg (by simp; omega))
  have HLI := Lib.hid h
  have HL := Lib.hid hL
  have HM := Lib.hid hm
  have hol := okS_len lim l
  rw [hm] at hol
  have HOL := Lib.hid hol
  clear hL h hr hm hc hol
  go_enter Tryd.func54, Tryd.ntmps54
  go_wp2_with fail
  refine HW.out.mono ?_
  rintro e1 w1 ⟨v1, Tn, b, rfl, ho, hch, hf, ht⟩
  have HB1 := Lib.hid (hch.below hb (fun i hi => HLI.out.hers hi))
  have HL1 := Lib.hid (HL.out.below HB1.out hg)
  have HF := Lib.hid hf
  have HT := Lib.hid ht
  have hs1 := hch.size
  cases b with
  | true =>
    obtain ⟨hD, hbad⟩ := HT.out (by first | trivial | rfl)
    obtain ⟨cc, hcc⟩ := dec_more l
    obtain ⟨e1, e2⟩ := hbad cc
    rw [List.nil_append, ← hcc] at e1 e2
    rw [List.nil_append] at e1
    have HOK := Lib.hid (show okS lim l = Tn from e1)
    have HBAD := Lib.hid (show badS lim l = true from e2)
    have HO := Lib.hid ho
    have HC := Lib.hid (close_done sb 6 w1 hD (by decide))
    have hTl : (Tn.map sgOf).length ≤ 134217728 := by rw [List.length_map, ← e1]; have := HOL.out; unfold okS at this; omega
    obtain ⟨tl, htl⟩ : ∃ tl, tl = (Tn.map sgOf).length := ⟨_, rfl⟩
    have HTL := Lib.hid htl
    rw [← htl] at HO hTl
    clear ho hch hf ht hD hbad hcc e1 e2 htl HF HT
    go_wp2_with fail
    refine HC.out.mono ?_
    rintro e2 w2 ⟨rfl, n2, hw2⟩
    have HO2 := Lib.hid (show w2.ownsRow w.heap.size 58 3 v1 tl (sgs (Tn.map sgOf)) by rw [hw2]; exact Ucd.own_below HO.out (below_drewN (Below.refl _ _) n2))
    have HB2 := Lib.hid (show Below base w w2 by rw [hw2]; exact below_drewN HB1.out n2)
    have hs2 : w.heap.size ≤ w2.heap.size := HB2.out.size
    clear hw2 hs1
    go_wp2_with (at_builtin; refine wpList_append_rd _ rfl (.tmp 21) (.tmp 22) _ rfl w.heap.size 58 i0 _ 3 32 Tryd.underlying36 hi hz0 hz1 hz2 rfl (by decide) v1 tl (sgs (Tn.map sgOf)) rfl HO2.out 0 none 0 0 [] rfl rfl (Rd.empty _ _ _) (fun _ h => nomatch h) (by unfold maxLen; omega) (by omega) hs2 ?_; intro v6 w6 hown6 hgr6 _)
    have HO6 := Lib.hid hown6
    have HB6 := Lib.hid (HB2.out.grown hgr6 (Nat.le_trans hb hs2) fun k hk => Nat.le_trans hb (HO2.out.lt k hk).1)
    clear hown6 hgr6
    go_ret2
    refine ⟨v6, by rw [HBAD.out]; rfl, ?_, HB6.out⟩
    rw [HOK.out, ← HTL.out]
    simpa using HO6.out
  | false =>
    obtain ⟨vo', hlv, hor⟩ := HF.out (by first | trivial | rfl)
    rw [List.nil_append, List.nil_append] at hlv
    have hb1 : base ≤ w1.heap.size := Nat.le_trans hb hs1
    have HC := Lib.hid (live_close base sb db lim vo' l Tn w1 HL1.out hlv hb1 hg (by have := HM.out; omega))
    have HAP := Lib.hid (hlv.apart ho (by decide) (by decide) (by decide))
    have HLV := Lib.hid hlv
    obtain ⟨TS, hTS⟩ : ∃ TS, TS = Tn.map sgOf := ⟨_, rfl⟩
    rw [← hTS] at ho
    have HO := Lib.hid ho
    have HTS := Lib.hid hTS
    clear ho hch hf ht hlv hor hTS HF HT
    go_wp2_with fail
    refine HC.out.mono ?_
    rintro e2 w2 ⟨v2, T2, rfl, ho2, hc2, hok, _⟩
    have HOK := Lib.hid hok
    obtain ⟨TS2, hTS2⟩ : ∃ TS, TS = T2.map sgOf := ⟨_, rfl⟩
    rw [← hTS2] at ho2
    have hsum : TS.length + TS2.length ≤ 134217728 := by
      have := HOL.out
      rw [← hok, List.length_append] at this
      rw [HTS.out, hTS2, List.length_map, List.length_map]; omega
    have HTS2 := Lib.hid hTS2
    obtain ⟨A2, c2, rfl, _, _, hr2⟩ := Utf.own_form ho2
    have HR2 := Lib.hid hr2
    have HO2 := Lib.hid (Norm.own_keep HO.out hc2 HAP.out)
    have HB2 := Lib.hid (HB1.out.trans (hc2.below hb1 (fun i hi => HLV.out.hers hi)))
    have hs2 : w.heap.size ≤ w2.heap.size := HB2.out.size
    clear ho2 hc2 hok hTS2 hr2 hs1
    cases hbb : badS lim l
    all_goals
      have HBB := Lib.hid hbb
      clear hbb
      go_wp2_with (at_builtin; refine wpList_append_rd _ rfl (.tmp 21) (.tmp 22) _ rfl w.heap.size 58 i0 _ 3 32 Tryd.underlying36 hi hz0 hz1 hz2 rfl (by decide) v1 TS.length (sgs TS) rfl HO2.out _ A2 TS2.length c2 (sgs TS2) rfl (sgs_len _) HR2.out (sgs_one _) (by unfold maxLen; omega) (by omega) hs2 ?_; intro v6 w6 hown6 hgr6 _)
      have HO6 := Lib.hid hown6
      have HB6 := Lib.hid (HB2.out.grown hgr6 (Nat.le_trans hb hs2) fun k hk => Nat.le_trans hb (HO2.out.lt k hk).1)
      clear hown6 hgr6
      go_ret2
      refine ⟨v6, by rw [HBB.out]; rfl, ?_, HB6.out⟩
      rw [← HOK.out, List.map_append, ← HTS.out, ← HTS2.out, sgs_append, List.length_append]
      exact HO6.out
end Go.Proofs.YtbljomfofgocaaaDoor.Seg
