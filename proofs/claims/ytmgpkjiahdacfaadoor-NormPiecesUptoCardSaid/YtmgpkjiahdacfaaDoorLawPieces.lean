/-
  Whatever pieces there are: what a former tells, piece by piece, is the normal form of all; at each moment what is told is what is sure. Conditions: the arguments hold at most 1048576 values; the package's tables are laid as the program's text lays them (tied).
-/
import Derived.Test.YtmgpkjiahdacfaaDoorNormOpen
import Derived.Test.YtmgpkjiahdacfaaDoorNormPiece
namespace Go.Proofs.YtmgpkjiahdacfaaDoor.LawNormPieces
open Go.ChangeShapes Go.WideShapes Go.ChangeAt Go.RowKit
open Utf hiding infoI32 rd_new own_form rdec_any below_drewN new_any write_any close_any
open Ucd hiding grow same Told
open Norm

set_option maxHeartbeats 8000000 in
set_option maxRecDepth 100000 in
/-- a Write of nothing -/
theorem write_zero (base fb : Nat) (v : Value) (K : List Int) (A : Option Addr) (c : Nat) (w : World) (hF : Fm w base fb v K false) :
    Calls Tryd.prog 24 #[.pointer (some ⟨fb, 0, none⟩), .slice A 0 c] w fun e w' => e = .returned (.slice none 0 0) ∧ Fm w' base fb v K false ∧ Chg w w' (Its fb v) := by
  obtain ⟨A0, ca, rfl, ha1, ha2, _⟩ := own_form hF.own
  have c0 := hF.blk.cell 0
  have c1 := hF.blk.cell 1
  have f0 := hF.blk.frozen 0
  simp only [List.getElem?_cons_succ, List.getElem?_cons_zero] at c0 c1
  have HF := Lib.hid hF
  obtain ⟨nk, hnk⟩ : ∃ nk, nk = K.length := ⟨_, rfl⟩
  rw [← hnk] at c0 ha1 HF ⊢
  have HNK := Lib.hid hnk
  clear hF hnk
  go_enter Tryd.func24, Tryd.ntmps24
  go_wp2_with fail
  go_loopw [5, 6, 25] (fun vf vs i wr => vf = .slice A0 nk ca ∧ vs = .int .i64 0 ∧ i = .int .i64 0 ∧ wr = w) (fun _ _ _ _ => 0)
  case atStart => exact ⟨rfl, rfl, rfl, rfl⟩
  case round =>
    obtain ⟨rfl, rfl, rfl, rfl⟩ := hrel
    go_wp2_with fail
    go_ret
    have hne := HF.out.ne
    exact ⟨rfl, ⟨HF.out.blk.set_ 0 _, own_set HF.out.own hne _, HF.out.le⟩, (Chg.refl _ _).setCell _ (.inl rfl)⟩
theorem write_both (base fb : Nat) (v : Value) (K l : List Int) (A : Option Addr) (n c : Nat) (w : World) (hL : Laid w) (hF : Fm w base fb v K false) (hK : Marks K) (hr : Rd w w.heap.size A (nums l)) (hd : l ≠ [] → ∀ b o, A = some ⟨b, o, none⟩ → v.ownBlock ≠ some b) (hn : l.length = n)
    (hb : base ≤ w.heap.size) (hg : 2 < base) (hsm : K.length + 3 * n ≤ 137438953472) :
    Calls Tryd.prog 24 #[.pointer (some ⟨fb, 0, none⟩), .slice A n c] w fun e w' => ∃ v2 v3, e = .returned v2 ∧ Fm w' base fb v3 (pend K (fulls l)) false ∧
      w'.ownsRow base 21 1 v2 (told K (fulls l)).length (nums (told K (fulls l))) ∧ Chg w w' (Its fb v) ∧ (∀ g, v3.ownBlock = some g → w.heap.size ≤ g ∨ v.ownBlock = some g) := by
  by_cases h0 : l = []
  · subst h0
    obtain rfl : n = 0 := by simpa using hn.symm
    exact (write_zero base fb v K A c w hF).mono fun e w' ⟨he, h1, h2⟩ => ⟨_, v, he, h1, World.ownsRow_nil _ _ _ _, h2, fun g hg => .inr hg⟩
  · exact (write_any base fb v K l A n c w hL hF hK hr (hd h0) hn hb hg hsm).mono fun e w' ⟨v2, v3, he, h1, h2, h3, _, _, h6⟩ => ⟨v2, v3, he, h1, h2, h3, h6⟩

/-- two values that share no block of a row -/
def Ap (v u : Value) : Prop := ∀ k, v.ownBlock = some k → u.ownBlock ≠ some k
theorem Ap.symm {v u : Value} (h : Ap v u) : Ap u v := fun k hk hv => h k hv hk
theorem Ap.fresh {w : World} {base size n : Nat} {e : TypeId} {v v' u : Value} {xs : List Value} (h : Ap v u) (hu : w.ownsRow base e size u n xs) (hv : v'.ownBlock = v.ownBlock ∨ v'.ownBlock = some w.heap.size) : Ap v' u := fun k hk hk2 => by
  rcases hv with e | e
  · exact h k (e ▸ hk) hk2
  · have := (hu.lt k hk2).2
    rw [e] at hk
    injection hk with hk
    omega
/-- where the loop stands behind the numbers L: all, what was told, the former -/
structure Pc (w : World) (G : Nat) (L T P : List Int) (a t v : Value) (wr : World) : Prop where
  all : wr.ownsRow G 21 1 a L.length (nums L)
  tld : wr.ownsRow G 21 1 t T.length (nums T)
  fm : Fm wr G G v P false
  at' : Ap a t
  av : Ap a v
  tv : Ap t v
  bel : Below w.heap.size w wr
section
variable {w wr wx : World} {G : Nat} {L T P : List Int} {a t v : Value}
theorem Pc.next (h : Pc w G L T P a t v wr) (hb : Below wr.heap.size wr wx) : Pc w G L T P a t v wx :=
  ⟨Ucd.own_below h.all hb, Ucd.own_below h.tld hb, h.fm.next hb, h.at', h.av, h.tv, h.bel.trans (hb.mono h.bel.size)⟩
theorem Pc.grew_all (h : Pc w G L T P a t v wr) (hG : w.heap.size ≤ G) {L' : List Int} {a' : Value} (ho : wx.ownsRow G 21 1 a' L'.length (nums L')) (hg : wr.grownBy wx a.ownBlock) (hv : a'.ownBlock = a.ownBlock ∨ a'.ownBlock = some wr.heap.size) : Pc w G L' T P a' t v wx :=
  have chg := (Chg.refl wr (fun k => a.ownBlock = some k)).grown hg (fun _ _ e => e)
  ⟨ho, Norm.own_keep h.tld chg (fun k hk e => h.at' k e hk), h.fm.keep chg (fun e => own_ne h.all h.fm.blk (by decide) e) (fun k hk e => h.av k e hk), h.at'.fresh h.tld hv, h.av.fresh h.fm.own hv, h.tv,
    h.bel.trans (chg.below (B := w.heap.size) h.bel.size (fun i hi e => by have := (h.all.lt i e).1; omega))⟩
theorem Pc.grew_told (h : Pc w G L T P a t v wr) (hG : w.heap.size ≤ G) {T' : List Int} {t' : Value} (ho : wx.ownsRow G 21 1 t' T'.length (nums T')) (hg : wr.grownBy wx t.ownBlock) (hv : t'.ownBlock = t.ownBlock ∨ t'.ownBlock = some wr.heap.size) : Pc w G L T' P a t' v wx :=
  have chg := (Chg.refl wr (fun k => t.ownBlock = some k)).grown hg (fun _ _ e => e)
  ⟨Norm.own_keep h.all chg (fun k hk e => h.at' k hk e), ho, h.fm.keep chg (fun e => own_ne h.tld h.fm.blk (by decide) e) (fun k hk e => h.tv k e hk), (h.at'.symm.fresh h.all hv).symm, h.av, h.tv.fresh h.fm.own hv,
    h.bel.trans (chg.below (B := w.heap.size) h.bel.size (fun i hi e => by have := (h.tld.lt i e).1; omega))⟩
theorem Pc.held (h : Pc w G L T P a t v wr) (hG : w.heap.size ≤ G) (hc : Chg wr wx (Its G v)) : wx.ownsRow G 21 1 a L.length (nums L) ∧ wx.ownsRow G 21 1 t T.length (nums T) ∧ Below w.heap.size w wx :=
  ⟨Norm.own_keep h.all hc (fun k hk hi => by
      rcases hi with rfl | e
      · exact own_ne h.all h.fm.blk (by decide) hk
      · exact h.av k hk e), Norm.own_keep h.tld hc (fun k hk hi => by
      rcases hi with rfl | e
      · exact own_ne h.tld h.fm.blk (by decide) hk
      · exact h.tv k hk e), h.bel.trans (hc.below h.bel.size fun i hi => h.fm.its (by omega))⟩
theorem Pc.wrote (h : Pc w G L T P a t v wr) (hG : w.heap.size ≤ G) {P' : List Int} {v3 : Value} (hF : Fm wx G G v3 P' false) (hc : Chg wr wx (Its G v)) (h3 : ∀ g, v3.ownBlock = some g → wr.heap.size ≤ g ∨ v.ownBlock = some g) : Pc w G L T P' a t v3 wx :=
  have hh := h.held hG hc
  ⟨hh.1, hh.2.1, hF, h.at', fun k hk e => by
      rcases h3 k e with h1 | h1
      · have := (h.all.lt k hk).2; omega
      · exact h.av k hk h1, fun k hk e => by
      rcases h3 k e with h1 | h1
      · have := (h.tld.lt k hk).2; omega
      · exact h.tv k hk h1, hh.2.2⟩
end
theorem cut_any {w : World} {base f cf t : Nat} {Af : Option Addr} {F : List Int} (hown : w.ownsRow base 21 1 (.slice Af f cf) f (nums F)) (ht : t ≤ f) (u : World) :
    (Instr.slice 22 (.slice Af f cf) none (some (.int .i64 t)) none).run Tryd.prog u = .ok (.slice Af t cf) u := by
  have he : Tryd.prog.elem 22 = 21 := by simp [Program.elem, Tryd.underlying22]
  have hf : f ≤ cf ∧ Af.map (fun a => a.add 0) = Af := by
    rcases hown.2 with ⟨h0, h1, _⟩ | ⟨g, cap, cur, hv, h1, h2, h3, h4, h5, h6⟩
    · cases h0; exact ⟨Nat.le_refl _, rfl⟩
    · cases hv
      have hadd : (⟨g, 0, none⟩ : Addr).add 0 = ⟨g, 0, none⟩ := by unfold Addr.add; split <;> simp_all
      exact ⟨by omega, by rw [Option.map_some, hadd]⟩
  rw [run_slice_h u 22 Af f cf (by rw [he]; exact Tryd.underlying22) .i64 (t : Int) (by omega) (by omega), he, Tryd.sizeOf21]
  simp [Result.andThen, sliced, hf.2]
theorem rd_take {w : World} {B : Nat} {A : Option Addr} {xs : List Int} (h : Rd w B A (nums xs)) (t : Nat) : Rd w B A (nums (xs.take t)) := fun hne => by
  have hx : nums xs ≠ [] := fun e => by
    apply hne
    have : xs = [] := by simpa [nums] using e
    rw [this]; simp [nums]
  obtain ⟨b, o, h1, h2, h3⟩ := h hx
  refine ⟨b, o, h1, h2, fun j u hu => h3 j u ?_⟩
  simp only [nums, List.getElem?_map, Option.map_eq_some_iff] at hu ⊢
  obtain ⟨x, hx, hu⟩ := hu
  exact ⟨x, by rw [List.getElem?_take] at hx; split at hx <;> simp_all, hu⟩

set_option maxHeartbeats 16000000 in
set_option maxRecDepth 100000 in
theorem walk (A : Option Addr) (xs : List Piece) (N c : Nat) (B : Option Addr) (m d : Nat) (w : World) (hL : Laid w) (hr : Rd w w.heap.size A (pieceVals xs) ∧ ∀ x ∈ xs, x.ok w) (hN : xs.length = N) (hNm : N ≤ 9223372036854775807) (ht : total xs ≤ 1048576) :
    Calls Tryd.prog 6 #[.slice A N c, .slice B m d] w (Law w) := by
  obtain ⟨hra, hok⟩ := hr
  obtain ⟨i0, hi, hz0, hz1, hz2⟩ := info_parts Ucd.infoI32
  have HN := Lib.hid hN; have HOK := Lib.hid hok; have HL := Lib.hid hL; have HRA := Lib.hid hra; have HTT := Lib.hid ht
  have HF := Lib.hid (fixed_any w hL)
  have hgm := hL.size
  clear hN hok hL hra ht
  go_enter Tryd.func6, Tryd.ntmps6
  go_wp2_with fail
  refine HF.out.mono ?_
  rintro e w1 ⟨rfl, hb1⟩
  clear HF
  go_wp2_with fail
  refine (new_any w1).mono ?_
  rintro e w2 ⟨rfl, hw2⟩
  have hF2 : Fm w2 w1.heap.size w1.heap.size (.slice none 0 0) [] false := by rw [hw2]; exact new_fm w1 _ (Nat.le_refl _)
  have hB2 : Below w.heap.size w w2 := by rw [hw2]; exact hb1.alloc hb1.size _
  have hs1 := hb1.size
  obtain ⟨G, hG⟩ : ∃ G, G = w1.heap.size := ⟨_, rfl⟩
  rw [← hG] at hF2 hs1 ⊢
  have HP0 := Lib.hid (show Pc w G [] (told [] (fulls [])) (pend [] (fulls [])) (.slice none 0 0) (.slice none 0 0) (.slice none 0 0) w2 from
    ⟨World.ownsRow_nil _ _ _ _, World.ownsRow_nil _ _ _ _, hF2, fun k h => by simp [Value.ownBlock] at h, fun k h => by simp [Value.ownBlock] at h, fun k h => by simp [Value.ownBlock] at h, hB2⟩)
  have hgG : 2 < G := by omega
  clear hG hw2 hF2 hB2 hb1
  go_wp2_with fail
  go_loopw [6, 7, 17] (fun a t i wr => ∃ k : Nat, k ≤ N ∧ i = .int .i64 k ∧ ∃ v, Hid (Pc w G (cat (xs.take k)) (told [] (fulls (cat (xs.take k)))) (pend [] (fulls (cat (xs.take k)))) a t v wr)) (fun _ _ i _ => N - (intOf i).toNat)
  case atStart => exact ⟨0, Nat.zero_le _, rfl, _, HP0⟩
  case round =>
    clear HP0
    obtain ⟨k, hk, rfl, v, HP⟩ := hrel
    obtain ⟨L, hL⟩ : ∃ L, L = cat (xs.take k) := ⟨_, rfl⟩
    have hLb : L.length ≤ 1048576 := by have := HTT.out; have := cat_take_le xs k; rw [hL]; omega
    rw [← hL] at HP
    have HLE := Lib.hid hL
    clear hL
    have hfl := fulls_len L
    have htp := told_pend_len [] (fulls L)
    rw [List.length_nil, Nat.zero_add] at htp
    have HMK := Lib.hid (pend_is_marks (fulls L) [] marks_nil)
    obtain ⟨T, hT⟩ : ∃ T, T = told [] (fulls L) := ⟨_, rfl⟩
    obtain ⟨P, hP⟩ : ∃ P, P = pend [] (fulls L) := ⟨_, rfl⟩
    obtain ⟨n, hn⟩ : ∃ n, n = L.length := ⟨_, rfl⟩
    rw [← hT] at HP htp
    rw [← hP] at HP htp HMK
    have HAO := Lib.hid HP.out.all
    have HTO := Lib.hid HP.out.tld
    rw [← hn] at HAO hfl hLb
    obtain ⟨Aa, ca, rfl, _, _, _⟩ := own_form HAO.out
    obtain ⟨At, ct, rfl, _, _, _⟩ := own_form HTO.out
    have htl : T.length ≤ 3145728 := by omega
    have hpl : P.length ≤ 3145728 := by omega
    have HT := Lib.hid hT; have HPE := Lib.hid hP; have HNL := Lib.hid hn
    have hGs : G ≤ wr.heap.size := Nat.le_of_lt HP.out.fm.blk.lt
    clear hfl htp hT hP hn
    by_cases hlt : k < N
    · have HKN := Lib.hid hlt
      have hkx : k < xs.length := by rw [HN.out]; exact hlt
      have hLn := cat_succ hkx
      have hLn2 : (cat (xs.take (k + 1))).length ≤ 1048576 := by have := HTT.out; have := cat_take_le xs (k + 1); omega
      rw [← HLE.out] at hLn
      have hxk := HOK.out xs[k] (List.getElem_mem hkx)
      have hcx : (pieceVals xs)[k]? = some xs[k].val := by simp [pieceVals, hkx]
      obtain ⟨x, hx⟩ : ∃ x, x = xs[k] := ⟨_, rfl⟩
      rw [← hx] at hLn hxk hcx
      clear hx
      obtain ⟨Ax, lx, cx⟩ := x
      obtain ⟨hxc, hxm, hxr⟩ := hxk
      simp only at hLn hxc hxm hxr
      obtain ⟨b, o, rfl, hbl⟩ := HRA.out.form (by rw [pieceVals_len, HN.out]; omega)
      have hck : wr.cell? ⟨b, o + k, none⟩ = some (.slice Ax lx.length cx) := by
        obtain ⟨b', o', e, _, hc'⟩ := HRA.out (by intro e; have := congrArg List.length e; rw [pieceVals_len, HN.out, List.length_nil] at this; omega)
        simp only [Option.some.injEq, Addr.mk.injEq, and_true] at e
        obtain ⟨rfl, rfl⟩ := e
        rw [HP.out.bel.cell hbl]
        exact hc' k _ hcx
      obtain ⟨mx, hmx⟩ : ∃ mx, mx = lx.length := ⟨_, rfl⟩
      rw [← hmx] at hxc hck
      have hLnl : (L ++ lx).length = n + mx := by rw [List.length_append, ← HNL.out, hmx]
      rw [hLn, hLnl] at hLn2
      have HXR := Lib.hid hxr
      have HXR2 := Lib.hid ((hxr.below HP.out.bel).more HP.out.bel.size)
      have HLX := Lib.hid (show (nums lx).length = mx * 1 by rw [nums_len, hmx, Nat.mul_one])
      have HMX := Lib.hid hmx; have HLN := Lib.hid hLn; have HLNL := Lib.hid hLnl
      clear hmx hLn hLnl hcx hxr hkx hxc hxm
      go_wp2_with (at_builtin; refine wpList_append_rd _ rfl (.tmp 21) (.tmp 22) _ rfl G 21 i0 _ 1 4 Tryd.underlying22 hi hz0 hz1 hz2 rfl (by decide) _ n (nums L) rfl HAO.out _ Ax mx cx (nums lx) rfl HLX.out HXR2.out (nums_one _) (by unfold maxLen; omega) (by omega) hGs ?_; intro va wa hva hga hata)
      have HPa := Lib.hid (HP.out.grew_all (wx := wa) (L' := L ++ lx) (a' := va) hs1 (by rw [HLNL.out, nums_append]; exact hva) hga hata)
      have hVA := hva
      rw [← nums_append] at hVA
      obtain ⟨Ab, cb, rfl, _, _, _⟩ := own_form hVA
      have HLa := Lib.hid (HL.out.below HPa.out.bel HL.out.size)
      have HXR3 := Lib.hid ((HXR.out.below HPa.out.bel).more HPa.out.bel.size)
      have HXD := Lib.hid (show lx ≠ [] → ∀ b o, Ax = some ⟨b, o, none⟩ → v.ownBlock ≠ some b from fun hne b o e hv => by
        have h1 := (HPa.out.fm.own.lt b hv).1
        subst e
        obtain ⟨b', o', e', h2, _⟩ := HXR.out (by intro e; exact hne (by simpa [nums] using e))
        cases e'
        omega)
      have hGa : G ≤ wa.heap.size := Nat.le_of_lt HPa.out.fm.blk.lt
      clear hva hVA hga hata HP HAO HTO HXR2 HXR
      refine (write_both G G v P lx Ax mx cx wa HLa.out HPa.out.fm HMK.out HXR3.out HXD.out HMX.out.symm hGa hgG (by omega)).mono ?_
      rintro e wb ⟨v2, v3, rfl, hF3, ho2, hc2, h3⟩
      have HPb := Lib.hid (HPa.out.wrote hs1 hF3 hc2 h3)
      obtain ⟨A2, c2, rfl, _, _, hr2⟩ := own_form ho2
      have hfl2 := fulls_len (L ++ lx)
      have htp2 := told_pend_len [] (fulls (L ++ lx))
      rw [List.length_nil, Nat.zero_add] at htp2
      rw [HLNL.out] at hfl2
      have hTT : told [] (fulls (L ++ lx)) = T ++ told P (fulls lx) := by rw [fulls_append, told_append, HT.out, HPE.out]
      have hPP : pend [] (fulls (L ++ lx)) = pend P (fulls lx) := by rw [fulls_append, pend_append, HPE.out]
      have hnrm : normal (L ++ lx) = told [] (fulls (L ++ lx)) ++ ord (pend [] (fulls (L ++ lx))) := rfl
      have hsure : sure (normal (L ++ lx)) = (told [] (fulls (L ++ lx))).length := sure_nfm (fulls (L ++ lx)) [] marks_nil
      have HTT2 := Lib.hid hTT; have HPP2 := Lib.hid hPP
      rw [← hPP] at HPb
      obtain ⟨T2, hT2⟩ : ∃ T2, T2 = told [] (fulls (L ++ lx)) := ⟨_, rfl⟩
      obtain ⟨P2, hP2⟩ : ∃ P2, P2 = pend [] (fulls (L ++ lx)) := ⟨_, rfl⟩
      rw [← hT2] at HTT2 htp2 hnrm hsure
      rw [← hP2] at HPb htp2 hnrm
      obtain ⟨Y, hY⟩ : ∃ Y, Y = told P (fulls lx) := ⟨_, rfl⟩
      rw [← hY] at HTT2 hr2 ⊢
      obtain ⟨y, hy⟩ : ∃ y, y = Y.length := ⟨_, rfl⟩
      rw [← hy]
      have hyl : T2.length = T.length + y := by rw [HTT2.out, List.length_append, hy]
      have HYL := Lib.hid (show (nums Y).length = y * 1 by rw [nums_len, hy, Nat.mul_one])
      have HR2 := Lib.hid hr2
      have HT2 := Lib.hid hT2; have HP2 := Lib.hid hP2; have HNR := Lib.hid hnrm; have HSU := Lib.hid hsure; have HYT := Lib.hid hyl
      have hGb : G ≤ wb.heap.size := Nat.le_of_lt HPb.out.fm.blk.lt
      have hyb : T.length + y ≤ 4194304 := by omega
      have hpb : P2.length ≤ 4194304 := by omega
      clear hF3 ho2 hc2 h3 hr2 hTT hPP hnrm hsure hT2 hP2 hY hy hyl hfl2 htp2 HPa HXR3 HXD HLa
      have HTB := Lib.hid HPb.out.tld
      go_wp2_with (at_builtin; refine wpList_append_rd _ rfl (.tmp 24) (.tmp 27) _ rfl G 21 i0 _ 1 4 Tryd.underlying22 hi hz0 hz1 hz2 rfl (by decide) _ T.length (nums T) rfl HTB.out _ A2 y c2 (nums Y) rfl HYL.out HR2.out (nums_one _) (by unfold maxLen; omega) (by omega) hGb ?_; intro vt wt hvt hgt hatt)
      have hvt2 : wt.ownsRow G 21 1 vt T2.length (nums T2) := by rw [HYT.out, HTT2.out, nums_append]; exact hvt
      have HPt := Lib.hid (HPb.out.grew_told (wx := wt) (T' := T2) (t' := vt) hs1 hvt2 hgt hatt)
      obtain ⟨t2, ht2⟩ : ∃ t2, t2 = T2.length := ⟨_, rfl⟩
      rw [← ht2] at hvt2
      rw [← HYT.out, ← ht2] at hyb
      have HT2L := Lib.hid ht2
      obtain ⟨Au, cu, rfl, _, _, _⟩ := own_form hvt2
      have HAt := Lib.hid HPt.out.all
      rw [HLNL.out] at HAt
      clear hvt hvt2 hgt hatt ht2 HPb HTB HR2 HYL
      refine (rnormal_any Ab (L ++ lx) (n + mx) cb wt (Rd.of_own HAt.out) HLNL.out (by omega)).mono ?_
      rintro e wu ⟨vu, rfl, hou, hbu⟩
      have HPu := Lib.hid (HPt.out.next hbu)
      obtain ⟨Aw, cw, rfl, _, _, hrw⟩ := own_form hou
      obtain ⟨X, hX⟩ : ∃ X, X = normal (L ++ lx) := ⟨_, rfl⟩
      rw [← hX] at hou hrw HNR HSU ⊢
      have hXl : X.length = t2 + P2.length := by rw [HNR.out, List.length_append, ord_len, HT2L.out]
      obtain ⟨q, hq⟩ : ∃ q, q = X.length := ⟨_, rfl⟩
      rw [← hq] at hou hXl ⊢
      obtain ⟨p, hp⟩ : ∃ p, p = P2.length := ⟨_, rfl⟩
      rw [← hp] at hXl hpb
      have HQ := Lib.hid hq; have HP3 := Lib.hid hp
      have HSR := Lib.hid (show Calls Tryd.prog 25 #[.slice Aw q cw] wu fun e w' => e = .returned (.int .i64 t2) ∧ wu = w' from by
        have := sure_any Aw X q cw wu hrw hq.symm (by omega)
        rw [HSU.out, ← HT2L.out] at this
        exact this)
      have hcut := fun u => cut_any hou (show t2 ≤ q by omega) u
      have HRW := Lib.hid (show Rd wu wu.heap.size Aw (nums T2) by
        have := rd_take hrw T2.length
        rw [HNR.out, List.take_left] at this
        exact this)
      have htu := HPu.out.tld
      rw [← HT2L.out] at htu
      have HTU := Lib.hid (Rd.of_own htu)
      clear htu
      have hsm := same_any Au Aw T2 T2 t2 t2 cu cw wu HTU.out HRW.out HT2L.out.symm HT2L.out.symm (by omega) (by omega)
      have hss : Ucd.same T2 T2 = true := decide_eq_true rfl
      rw [hss] at hsm
      have HSM := Lib.hid hsm
      have HPD := Lib.hid (fun (u : World) (hb : Below wu.heap.size wu u) => show Calls Tryd.prog 26 #[.pointer (some ⟨G, 0, none⟩)] u fun e w' => e = .returned (.int .i64 p) ∧ u = w' from by
        have := pending_any G G v3 P2 false u (HPu.out.next hb).fm
        rw [← HP3.out] at this
        exact this)
      have es : IntKind.i64.wrap ((q : Int) - (t2 : Int)) = (p : Int) := by rw [IntWalk.i64_in _ (by omega)]; omega
      have en : ((p : Int) != (p : Int)) = false := by simp
      clear hX hq hp hrw hou hbu hsm hss HAt HPt hXl
      go_wp2_with fail
      refine HSR.out.mono ?_
      rintro e w' ⟨rfl, rfl⟩
      go_wp2_with fail
      refine HSM.out.mono ?_
      rintro e wv ⟨rfl, kk, hwv⟩
      have hbv : Below wu.heap.size wu wv := by rw [hwv]; exact below_drewN (Below.refl _ _) _
      have HPv := Lib.hid (HPu.out.next hbv)
      have HPD2 := Lib.hid (HPD.out wv hbv)
      have hst : Hid (Pc w G (cat (xs.take (k + 1))) (told [] (fulls (cat (xs.take (k + 1))))) (pend [] (fulls (cat (xs.take (k + 1))))) (.slice Ab (n + mx) cb) (.slice Au t2 cu) v3 wv) := Lib.hid (by
        rw [HLN.out, ← HT2.out, ← HP2.out]
        exact HPv.out)
      clear hwv hbv HPu HPv HPD
      go_wp2_with fail
      refine HPD2.out.mono ?_
      rintro e w' ⟨rfl, rfl⟩
      go_wp2_with fail
      clear es en hcut
      go_roundw
      case rel => exact ⟨k + 1, by have := HKN.out; omega, by go_num, _, hst⟩
      case measure => have := HKN.out; simp [intOf]; omega
    · obtain rfl : k = N := by omega
      have HLr := Lib.hid (HL.out.below HP.out.bel HL.out.size)
      obtain ⟨Av, cv, rfl, _, _, _⟩ := own_form HP.out.fm.own
      have hnrm : normal L = T ++ ord P := by rw [HT.out, HPE.out]; rfl
      have HNR := Lib.hid hnrm
      clear hnrm
      go_wp2_with fail
      refine (close_any G G _ P false wr HLr.out HP.out.fm hGs hgG (by omega)).mono ?_
      rintro e wa ⟨rfl, ho, hFc, hc⟩
      obtain ⟨haa, hta, hba⟩ := HP.out.held hs1 hc
      rw [← HNL.out] at haa
      obtain ⟨p, hp⟩ : ∃ p, p = P.length := ⟨_, rfl⟩
      rw [← hp] at ho hpl ⊢
      have HRV := Lib.hid (Rd.of_own ho)
      have HPL := Lib.hid (show (nums (ord P)).length = p * 1 by rw [nums_len, ord_len, hp, Nat.mul_one])
      have HAT := Lib.hid (show Ap (.slice Aa n ca) (.slice At T.length ct) from HP.out.at')
      have HTA := Lib.hid hta; have HAA := Lib.hid haa; have HFC := Lib.hid hFc; have HBA := Lib.hid hba
      have hGa : G ≤ wa.heap.size := Nat.le_of_lt HFC.out.blk.lt
      have hXl : (normal L).length = T.length + p := by rw [HNR.out, List.length_append, ord_len, hp]
      have HXL := Lib.hid hXl
      clear ho hFc hc haa hta hba hp HP HLr HAO HTO hXl
      go_wp2_with (at_builtin; refine wpList_append_rd _ rfl (.tmp 49) (.tmp 51) _ rfl G 21 i0 _ 1 4 Tryd.underlying22 hi hz0 hz1 hz2 rfl (by decide) _ T.length (nums T) rfl HTA.out _ Av p cv (nums (ord P)) rfl HPL.out HRV.out (nums_one _) (by unfold maxLen; omega) (by omega) hGa ?_; intro vt wt hvt hgt hatt)
      rw [← nums_append, ← HNR.out, ← HXL.out] at hvt
      have chg := (Chg.refl wa (fun k => (Value.slice At T.length ct).ownBlock = some k)).grown hgt (fun _ _ e => e)
      have HFT := Lib.hid (HFC.out.keep chg (fun e => own_ne HTA.out HFC.out.blk (by decide) e) (fun k hk => by simp [Value.ownBlock] at hk))
      have HAL := Lib.hid (Norm.own_keep HAA.out chg (fun k hk e => HAT.out k hk e))
      have HBT := Lib.hid (HBA.out.trans (chg.below (B := w.heap.size) HBA.out.size (fun i hi e => by have := (HTA.out.lt i e).1; omega)))
      have HLt := Lib.hid (HL.out.below HBT.out HL.out.size)
      obtain ⟨X, hX⟩ : ∃ X, X = normal L := ⟨_, rfl⟩
      rw [← hX] at hvt HXL
      obtain ⟨q, hq⟩ : ∃ q, q = X.length := ⟨_, rfl⟩
      rw [← hq] at hvt HXL
      have hqb : q ≤ 8388608 := by have := HXL.out; omega
      obtain ⟨Au, cu, rfl, _, _, _⟩ := own_form hvt
      have HVT := Lib.hid hvt
      have HNA := Lib.hid (normal_any Aa L n ca wt HLt.out (Rd.of_own HAL.out) HNL.out.symm (by omega))
      rw [← hX] at HNA
      have HQ := Lib.hid hq
      clear hvt hgt hatt chg hX hq HTA HAA HFC HBA HRV HAT HAL HPL
      go_wp2_with fail
      refine HNA.out.mono ?_
      rintro e wu ⟨vu, rfl, hou, hbu⟩
      rw [← HQ.out] at hou
      obtain ⟨Aw, cw, rfl, _, _, hrw⟩ := own_form hou
      have HFU := Lib.hid (HFT.out.next hbu)
      have HBU := Lib.hid (HBT.out.trans (hbu.mono HBT.out.size))
      have hsm := same_any Au Aw X X q q cu cw wu (Rd.of_own (Ucd.own_below HVT.out hbu)) hrw HQ.out.symm HQ.out.symm (by omega) (by omega)
      have hss : Ucd.same X X = true := decide_eq_true rfl
      rw [hss] at hsm
      have HSM := Lib.hid hsm
      clear hsm hss hou hrw hbu HVT HFT HBT HNA HLt
      go_wp2_with fail
      refine HSM.out.mono ?_
      rintro e wv ⟨rfl, kk, hwv⟩
      have hbv : Below wu.heap.size wu wv := by rw [hwv]; exact below_drewN (Below.refl _ _) _
      have HFV := Lib.hid (HFU.out.next hbv)
      have HBV := Lib.hid (HBU.out.trans (hbv.mono HBU.out.size))
      have HLv := Lib.hid (HL.out.below HBV.out HL.out.size)
      have hGv : G ≤ wv.heap.size := Nat.le_of_lt HFV.out.blk.lt
      clear hwv hbv HFU HBU HSM
      go_wp2_with fail
      refine (write_closed G G _ [] B m d wv HFV.out).mono ?_
      rintro e w' ⟨rfl, rfl⟩
      go_wp2_with fail
      refine (close_any G G _ [] true wv HLv.out HFV.out hGv hgG (by simp)).mono ?_
      rintro e wx ⟨rfl, _, hFx, hcx⟩
      have HFX := Lib.hid hFx
      have HBX := Lib.hid (HBV.out.trans (hcx.below HBV.out.size fun i hi => HFV.out.its (by omega)))
      clear hFx hcx
      go_wp2_with fail
      refine (pending_any G G _ [] true wx HFX.out).mono ?_
      rintro e w' ⟨rfl, rfl⟩
      go_wp2_with fail
      go_ret
      exact ⟨rfl, HBX.out⟩

theorem contract (H : Type) (enc : TypeId × Value → H) (W : World) (base : Nat) (args : Array Value) (ds gs : List (DataW H)) (before : List MemPlace)
    (hval : ∀ (j : Nat) t v, Tryd.f6.params[j]? = some t → args[j]? = some v → Value.okWide Tryd.prog W .any base t v)
    (hW : DataW.Whole enc Tryd.prog Tryd.f6.params.toList Rows.normPiecesSpec.vars false W args.toList ds gs before) (hLL : laidMetH Tryd.prog Rows.normPiecesUptoRow.laid W) (hk : Rows.uptoSmall H (ds ++ gs) = true) :
    Calls Tryd.prog 6 args W fun e W' => ∃ v, e = .returned v ∧ Rows.normPiecesSpec.post enc Tryd.prog Tryd.f6 false true false false W args v W' := by
  have hL : Laid W := laid_of hLL
  have hW' := hW
  obtain ⟨p, q, hA0, hV, rfl, hfz, hnd⟩ := hW
  have hA : DataW.TrodAll enc Tryd.prog W 0 (fun _ => true) true Tryd.f6.params.toList args.toList ds p := hA0
  rw [Tryd.params6] at hA hval
  obtain ⟨v0, vs0, d0, ds0, p0, q0, hargs, rfl, rfl, h0, r0⟩ := trodAll_cons hA
  obtain ⟨v1, vs1, d1, ds1, p1, q1, rfl, rfl, rfl, h1, r1⟩ := trodAll_cons r0
  obtain ⟨rfl, rfl, rfl⟩ := trodAll_nil r1
  obtain rfl : args = #[v0, v1] := by cases args; simp_all
  obtain ⟨rfl, rfl⟩ := trodVars_none hV
  obtain ⟨a0, len0, cap0, rfl⟩ := okWide_slice Tryd.underlying33 (hval 0 33 v0 rfl rfl)
  have k0 := h0
  have lt0 : ∀ x ∈ p0, x.block < W.heap.size := by obtain ⟨m, hm⟩ := k0; exact DataW.trod_lt m _ _ _ hm
  obtain ⟨l0, hl0, hc0, hm0, hr0, hb0⟩ := open_pieces h0
  obtain ⟨a1, len1, cap1, rfl⟩ := okWide_slice Tryd.underlying22 (hval 1 22 v1 rfl rfl)
  have k1 := h1
  have lt1 : ∀ x ∈ p1, x.block < W.heap.size := by obtain ⟨m, hm⟩ := k1; exact DataW.trod_lt m _ _ _ hm
  obtain ⟨l1, hl1, hc1, hm1, hw1, hr1, hb1, hd1⟩ := open_nums h1
  have hbd := bulk_bound hk
  simp only [List.append_nil, Rows.uptoBulkAll] at hbd
  clear hA0
  refine (walk a0 l0 len0 cap0 a1 len1 cap1 W hL hr0 hl0 (by omega) (by omega)).mono fun e W' ⟨he, bel⟩ => ?_
  subst he
  exact ⟨_, rfl, _, _, _, [], _, [], hW', trodAll_mk1 (shut_bool Tryd.underlying4 _), (trodAll_cons_mk (Below.trod laidOut (by kernel_rfl) (of_decide_eq_true (by kernel_rfl)) k0 bel lt0) (trodAll_cons_mk (Below.trod laidOut (by kernel_rfl) (of_decide_eq_true (by kernel_rfl)) k1 bel lt1) trodAll_mk0)), rfl, bel.frame _, fun h => by cases h⟩

theorem laid_met (os : Os) : laidMet Tryd.prog Rows.normPiecesUptoRow.laid ((laidWorld os).forCall (fun _ _ => 0) ⟨#[], #[.slice none 0 0, .slice none 0 0], []⟩).memory :=
  laidMet_of_run' 8 (by kernel_rfl) (by kernel_rfl)
theorem reads (os : Os) {H : Type} (enc : TypeId × Value → H) : ∃ places, DataW.whole enc Tryd.prog ((laidWorld os).forCall (fun _ _ => 0) ⟨#[], #[.slice none 0 0, .slice none 0 0], []⟩).memory Tryd.f6.params.toList Rows.normPiecesSpec.vars false (#[.slice none 0 0, .slice none 0 0] : Array Value).toList 8 = some ([.nil, .nil], [], places) :=
  ⟨[], by kernel_rfl⟩

set_option maxRecDepth 100000 in
theorem lifted (os : Os) (started : os.Started) (H : Type) (enc : TypeId × Value → H) (F : Stop.Interp) :
    ReturnsInHanded {} Tryd.checked os 6 .any ((Rows.OpenSpec.upto Rows.normPiecesSpec).preRow enc Tryd.prog Tryd.f6 Rows.normPiecesUptoRow.domain false Rows.normPiecesUptoRow.laid) (((Rows.OpenSpec.upto Rows.normPiecesSpec).at F).post enc Tryd.prog Tryd.f6 false true false false) := by
  obtain ⟨places, hx⟩ := reads os enc
  refine returnsInHanded_of_row (C := Tryd.checked) (s := Rows.OpenSpec.upto Rows.normPiecesSpec) own started (by kernel_rfl) Tryd.func6
    (witness_row_at (enc := enc) (C := Tryd.checked) false (laidWorld os) #[.slice none 0 0, .slice none 0 0] rfl (by kernel_rfl) (by kernel_rfl) (by kernel_rfl)
      (OpenSpec.preRow_of_cond 8 hx (by kernel_rfl) (fun k hk => by cases hk; kernel_rfl) (by kernel_rfl) (laid_met os))) ?_
  intro W base args ds gs before hval hW _ hcond _ hL _ _
  exact contract H enc W base args ds gs before hval hW hL (hcond _ rfl)

theorem said : Rows.NormPiecesUptoSaid :=
  OpenClaim.holds_of_cond 6 Tryd.f6 rfl rfl rfl rfl rfl rfl rfl ⟨rfl, rfl, rfl, rfl, rfl⟩ rfl rfl rfl rfl rfl (by kernel_rfl) Tryd.func6 (by kernel_rfl)
    (of_decide_eq_true (by kernel_rfl)) (by unfold Func.isWrapper; first | (rw [if_pos (by decide +kernel)]; kernel_rfl) | (rw [if_neg (by decide +kernel)]; exact ⟨rfl, rfl⟩))
    (fun os started H enc _ F => by rw [OpenClaim.pre_eq_preRow]; exact lifted os started H enc F)

/-- no parameter wants a stand-in; the program's own looks are off -/
theorem plain (f : FuncId) (fn : Func) (hf : Tryd.pinned.checked.prog.funcNamed Rows.normPiecesUptoRow.func = some f) (hfn : Tryd.pinned.checked.prog.funcs[f]? = some fn) :
    false = Tryd.pinned.checked.prog.looks [] ∧ ∀ (j : Nat) t, fn.params[j]? = some t → Tryd.pinned.checked.prog.wantsStandIn t = false := by
  obtain rfl : f = 6 := Option.some.inj ((show Tryd.prog.funcNamed Rows.normPiecesUptoRow.func = some 6 by kernel_rfl).symm.trans hf) |>.symm
  obtain rfl : fn = Tryd.f6 := (Option.some.inj (Tryd.func6.symm.trans hfn)).symm
  refine ⟨by kernel_rfl, fun j t ht => ?_⟩
  rw [Tryd.params6] at ht
  have hm := Array.mem_of_getElem? ht
  simp only [List.mem_toArray, List.mem_cons, List.not_mem_nil, or_false] at hm
  rcases hm with rfl | rfl
  all_goals first | exact (show Tryd.prog.wantsStandIn 33 = false by kernel_rfl) | exact (show Tryd.prog.wantsStandIn 22 = false by kernel_rfl)

/-- THE STATEMENT -/
theorem proved : Rows.NormPiecesUptoCardSaid :=
  Claim7.holds_tied_plain_at .later [] _ _ _ _ said (fun _ h => by cases h) (by kernel_rfl) (fun _ h => by cases h) normPiecesUpto_row_tie rfl ⟨rfl, rfl⟩ (by kernel_rfl) rfl plain (by kernel_rfl)
end Go.Proofs.YtmgpkjiahdacfaaDoor.LawNormPieces
