/-
  Whatever chunks of bytes there are (the arguments of bulk at most 1048576): bytes that come in chunks, cut anywhere, are read as all together; at each moment what is told is what is sure. Conditions: the given bound on the arguments' bulk.
-/
import Derived.Test.YtginlfofijbpjaaUtfOpen
import Derived.Test.YtginlfofijbpjaaUtfChunk
import Derived.Laws.OwnMore
import Derived.Deep.DeepCutAuto
namespace Go.Proofs.Ytginlfofijbpjaa.LawUtfChunks
open Go.ChangeShapes Go.WideShapes Go.ChangeAt Go.RowKit Utf

theorem own_keep {w w' : World} {base : Nat} {e : TypeId} {size : Nat} {v : Value} {n : Nat} {xs : List Value} {row : Option Nat} (h : w.ownsRow base e size v n xs) (hg : w.grownBy w' row) (hne : ∀ k, v.ownBlock = some k → row = some k → False) : w'.ownsRow base e size v n xs :=
  h.kept hg (by
    cases hv : v.ownBlock with
    | none => left; rfl
    | some k => right; intro e; exact hne k hv e.symm)
theorem own_far {w w' : World} {base g : Nat} {e : TypeId} {size : Nat} {v : Value} {n : Nat} {xs : List Value} (h : w.ownsRow base e size v n xs) (hg : w.grownBy w' (some g)) (hlt : g < base) : w'.ownsRow base e size v n xs :=
  h.kept hg (.inr (fun e => by have := (h.lt g e).1; omega))
/-- two rows of two types share no block -/
theorem own_apart {w : World} {b1 b2 : Nat} {e1 e2 : TypeId} {s1 s2 n1 n2 : Nat} {v1 v2 : Value} {xs1 xs2 : List Value} (h1 : w.ownsRow b1 e1 s1 v1 n1 xs1) (h2 : w.ownsRow b2 e2 s2 v2 n2 xs2) (hne : e1 ≠ e2) : ∀ k, v1.ownBlock = some k → v2.ownBlock = some k → False := by
  intro k k1 k2
  rcases h1.2 with ⟨rfl, _⟩ | ⟨g1, cap1, cur1, rfl, _, hh1, _⟩
  · cases k1
  · rcases h2.2 with ⟨rfl, _⟩ | ⟨g2, cap2, cur2, rfl, _, hh2, _⟩
    · cases k2
    · simp only [Value.ownBlock, Option.some.injEq] at k1 k2
      subst k1; subst k2
      rw [hh1] at hh2
      simp only [Option.some.injEq, Obj.cells.injEq] at hh2
      exact hne hh2.2.1

/-- where the loop stands: all, told, the decoder, behind the bytes L -/
def St (w w2 : World) (G H : Nat) (L : List UInt8) (all told : Value) (wr : World) : Prop :=
  wr.ownsRow H 5 1 all L.length (bys L) ∧ wr.ownsRow H 37 3 told (dec true 0 L).length (pts (dec true 0 L)) ∧
  (∃ k0 k1 k2, Dc wr G k0 k1 k2 (L.length - eat L) (eat L) false ∧ kept k0 k1 k2 (L.length - eat L) = L.drop (eat L)) ∧ Below w.heap.size w wr ∧ w2.heap.size ≤ wr.heap.size

set_option maxRecDepth 100000 in
set_option maxHeartbeats 4000000 in
theorem walk (A : Option Addr) (xs : List Chunk) (N c : Nat) (B : Option Addr) (m d : Nat) (w : World) (hr : Rd w w.heap.size A (chunkVals xs) ∧ ∀ x ∈ xs, x.ok w) (hN : xs.length = N) (hNc : N ≤ c) (hcm : c ≤ 9223372036854775807) (ht : total xs ≤ 1048576) :
    Calls Try.prog 5 #[.slice A N c, .slice B m d] w (Law w) := by
  obtain ⟨hra, hok⟩ := hr
  obtain ⟨i0, hi, hz0, hz1, hz2⟩ := info_parts infoU8
  obtain ⟨ip, ip1, ip2, ip3, ip4⟩ := info_parts infoPt
  have HN := Lib.hid hN; have HOK := Lib.hid hok
  clear hN hok
  go_enter Try.func5, Try.ntmps5
  go_wp2_with fail
  refine (fixed_any _).mono ?_
  rintro e w1 hf
  obtain ⟨rfl, hb1⟩ := hf.out
  clear hf
  go_wp2_with fail
  refine (new_any _).mono ?_
  rintro e w2 ⟨rfl, hw2⟩
  have hD2 : Dc w2 w1.heap.size 0 0 0 0 0 false := by rw [hw2]; exact Blk.new w1 _ _
  have hbw2 : Below w.heap.size w w2 := by rw [hw2]; exact hb1.alloc hb1.size _
  have hs2 : w1.heap.size < w2.heap.size := Blk.lt hD2
  have hs1 := hb1.size
  obtain ⟨G, hG⟩ : ∃ G, G = w1.heap.size := ⟨_, rfl⟩
  rw [← hG] at hD2 hs2 hs1 ⊢
  have HD2 := Lib.hid hD2; have HB2 := Lib.hid hbw2
  clear hG hw2 hD2 hb1 hbw2
  go_wp2_with fail
  have hH := Nat.le_refl w2.heap.size
  go_loopw [6, 7, 17] (fun a t i wr => ∃ k : Nat, k ≤ N ∧ i = .int .i64 k ∧ Hid (St w w2 G w2.heap.size (cat (xs.take k)) a t wr)) (fun _ _ i _ => N - (intOf i).toNat)
  case atStart => exact ⟨0, Nat.zero_le _, rfl, Lib.hid ⟨World.ownsRow_nil _ _ _ _, World.ownsRow_nil _ _ _ _, ⟨0, 0, 0, HD2.out, rfl⟩, HB2.out, Nat.le_refl _⟩⟩
  case round =>
    obtain ⟨k, hk, rfl, HST⟩ := hrel
    obtain ⟨hall, htold, ⟨k0, k1, k2, hD, hkp⟩, hbw, hsw⟩ := HST.out
    obtain ⟨L, hL⟩ : ∃ L, L = cat (xs.take k) := ⟨_, rfl⟩
    have hLb : L.length ≤ total xs := by rw [hL]; exact cat_take_le xs k
    have hLb' : Hid (L.length ≤ total xs) := Lib.hid hLb
    rw [← hL] at hall htold hD hkp
    have HL := Lib.hid hL
    clear HST hL
    have hes := rest_short L
    have hel := eat_le L
    obtain ⟨H, hHe⟩ : ∃ H, H = w2.heap.size := ⟨_, rfl⟩
    rw [← hHe] at hall htold hsw hs2
    have HHE := Lib.hid hHe
    clear hHe
    have hTl := dec_len_le true L 0
    obtain ⟨T, hT⟩ : ∃ T, T = dec true 0 L := ⟨_, rfl⟩
    obtain ⟨q, hq⟩ : ∃ q, q = eat L := ⟨_, rfl⟩
    obtain ⟨n, hn⟩ : ∃ n, n = L.length := ⟨_, rfl⟩
    rw [← hT] at htold hTl
    rw [← hq] at hD hkp hes hel
    rw [← hn] at hall hD hkp hes hel hTl hLb
    have HT := Lib.hid hT; have HQ := Lib.hid hq; have HNL := Lib.hid hn
    clear hT hq hn
    by_cases hlt : k < N
    · have hkx : k < xs.length := by rw [HN.out]; exact hlt
      have hLn := cat_succ hkx
      have hLn2 := cat_take_le xs (k + 1)
      rw [← HL.out] at hLn
      have hxk := HOK.out xs[k] (List.getElem_mem hkx)
      have hcx : (chunkVals xs)[k]? = some xs[k].val := by simp [chunkVals, hkx]
      obtain ⟨x, hx⟩ : ∃ x, x = xs[k] := ⟨_, rfl⟩
      rw [← hx] at hLn hxk hcx
      clear hx
      obtain ⟨Ax, lx, cx⟩ := x
      obtain ⟨hxc, hxm, hxr⟩ := hxk
      simp only at hLn hxc hxm hxr
      obtain ⟨b, o, rfl, hbl⟩ := hra.form (by rw [chunkVals_len]; omega)
      have hck : wr.cell? ⟨b, o + k, none⟩ = some (.slice Ax lx.length cx) := by
        obtain ⟨b', o', e, _, hc'⟩ := hra (by intro e; have := congrArg List.length e; rw [chunkVals_len, List.length_nil] at this; omega)
        simp only [Option.some.injEq, Addr.mk.injEq, and_true] at e
        obtain ⟨rfl, rfl⟩ := e
        rw [hbw.cell hbl]
        exact hc' k _ hcx
      obtain ⟨mx, hmx⟩ : ∃ mx, mx = lx.length := ⟨_, rfl⟩
      rw [← hmx] at hxc hck
      have hLnl : (L ++ lx).length = n + mx := by rw [List.length_append, HNL.out, hmx]
      rw [hLn, hLnl] at hLn2
      have hxr2 : Rd wr w.heap.size Ax (bys lx) := hxr.below hbw
      have HLX : Hid ((bys lx).length = mx * 1) := Lib.hid (by rw [bys_len, hmx, Nat.mul_one])
      have HMX := Lib.hid hmx; have HLN := Lib.hid hLn; have HLNL := Lib.hid hLnl; have HD := Lib.hid hD; have HKP := Lib.hid hkp; have HTO := Lib.hid htold; have HAL := Lib.hid hall; have HXR := Lib.hid hxr
      have hws := hbw.size
      have hlwr := hD.lt
      clear hmx hLn hLnl hD hkp htold hall hcx hxr hkx
      go_wp2_with (first
        | (at_builtin; refine wpList_append_rd _ rfl (.tmp 21) (.tmp 22) _ rfl H 5 i0 _ 1 1 Try.underlying22 hi hz0 hz1 hz2 rfl (by decide) _ n (bys L) rfl HAL.out w.heap.size Ax mx cx (bys lx) rfl HLX.out hxr2 (bys_one _) (by unfold maxLen; omega) (by omega) hsw ?_; intro va wa hva hga hata))
      have hDa : Dc wa G k0 k1 k2 (n - q) q false := Blk.grown HD.out hga (fun e => by have := (HAL.out.lt G e.symm).1; omega)
      have hTa := own_keep HTO.out hga (fun k h1 h2 => own_apart HTO.out HAL.out (by decide) k h1 h2)
      have hbwa : Below w.heap.size w wa := Below.grown hbw hga hbw.size (fun k hk => by have := (HAL.out.lt k hk).1; omega)
      have hsa := hga.size
      have hrxa := (HXR.out.below hbwa).more hbwa.size
      rw [← bys_append] at hva
      obtain ⟨Aa, ca, rfl, _, _, _⟩ := own_form hva
      have HVA := Lib.hid hva; have HTA := Lib.hid hTa; have HDA := Lib.hid hDa
      clear hva hTa hDa hga hata HAL HTO HD
      refine (write_any G (n - q) q mx cx k0 k1 k2 Ax lx wa HDA.out (by omega) hrxa HMX.out.symm (by omega) (by omega) (by omega) (by omega)).mono ?_
      rintro e wb ⟨vb, j0, j1, j2, rfl, hvb, hDb, hkb, hgb⟩
      rw [HKP.out] at hvb hDb hkb
      have hea : eat (L ++ lx) = q + eat (L.drop q ++ lx) := by rw [eat_append, ← HQ.out]
      have hda : dec true 0 (L ++ lx) = T ++ dec true q (L.drop q ++ lx) := by rw [dec_append, ← HQ.out, ← HT.out, Nat.zero_add]
      have hdl : (L.drop q ++ lx).length = n - q + mx := by rw [List.length_append, List.length_drop, ← HNL.out, ← HMX.out]
      have hdq : (L ++ lx).drop q = L.drop q ++ lx := List.drop_append_of_le_length (by rw [← HNL.out]; exact hel)
      have hdd : (L.drop q ++ lx).drop (eat (L.drop q ++ lx)) = (L ++ lx).drop (eat (L ++ lx)) := by rw [hea, ← List.drop_drop, hdq]
      have hel2 := eat_le (L ++ lx)
      have hes2 := rest_short (L ++ lx)
      have hTl2 := dec_len_le true (L ++ lx) 0
      rw [HLNL.out] at hel2 hes2 hTl2
      have hee : (L.drop q ++ lx).length - eat (L.drop q ++ lx) = n + mx - eat (L ++ lx) := by rw [hdl, hea]; omega
      rw [hee, ← hea] at hDb
      rw [hee, hdd] at hkb
      obtain ⟨Y, hY⟩ : ∃ Y, Y = dec true q (L.drop q ++ lx) := ⟨_, rfl⟩
      obtain ⟨T2, hT2⟩ : ∃ T2, T2 = dec true 0 (L ++ lx) := ⟨_, rfl⟩
      rw [← hY] at hvb hda
      rw [← hT2] at hda hTl2
      have hYl : T2.length = T.length + Y.length := by rw [hda, List.length_append]
      obtain ⟨E, hE⟩ : ∃ E, E = eat (L ++ lx) := ⟨_, rfl⟩
      rw [← hE] at hDb hkb hel2 hes2
      have hbwb : Below w.heap.size w wb := Below.grown hbwa hgb hbwa.size (fun k hk => by cases hk; omega)
      have hTb := own_far HTA.out hgb (by omega)
      have hAb := own_far HVA.out hgb (by omega)
      have hsb := hgb.size
      obtain ⟨Ab, cb, rfl, _, _, hrb⟩ := own_form hvb
      have HYL : Hid ((pts Y).length = Y.length * 3) := Lib.hid (pts_len Y)
      have HTB := Lib.hid hTb; have HAB := Lib.hid hAb; have HDB := Lib.hid hDb; have HKB := Lib.hid hkb; have HEE := Lib.hid hE; have HT2 := Lib.hid hT2; have HDE := Lib.hid hda
      clear hTb hAb hDb hkb hE hT2 hY hda hea hdl hdd hdq hee hgb hvb HVA HTA HDA hrxa
      go_wp2_with (first
        | (at_builtin; refine wpList_append_rd _ rfl (.tmp 24) (.tmp 27) _ rfl H 37 ip _ 3 24 Try.underlying25 ip1 ip2 ip3 ip4 rfl (by decide) _ T.length (pts T) rfl HTB.out wb.heap.size Ab Y.length cb (pts Y) rfl HYL.out hrb (pts_one Y) (by unfold maxLen; omega) (by omega) (by omega) ?_; intro vt wt hvt hgt hatt))
      have hbwt : Below w.heap.size w wt := Below.grown hbwb hgt hbwb.size (fun k hk => by have := (HTB.out.lt k hk).1; omega)
      have hAt := own_keep HAB.out hgt (fun k h1 h2 => own_apart HAB.out HTB.out (by decide) k h1 h2)
      have hDt : Dc wt G j0 j1 j2 (n + mx - E) E false := Blk.grown HDB.out hgt (fun e => by have := (HTB.out.lt G e.symm).1; omega)
      have hst := hgt.size
      rw [← pts_append, ← HDE.out, ← hYl] at hvt
      have hrA := Rd.of_own hAt
      have HVT := Lib.hid hvt; have HAT := Lib.hid hAt; have HDT := Lib.hid hDt
      clear hvt hAt hDt hgt hatt HTB HAB HDB hrb
      refine (rdec_any Aa (L ++ lx) (n + mx) ca true wt hrA HLNL.out (by omega)).mono ?_
      rintro e wu ⟨vu, rfl, hvu, hbu⟩
      rw [← HT2.out] at hvu
      obtain ⟨Au, cu, rfl, _, _, hru⟩ := own_form hvu
      have hTu := own_below HVT.out hbu
      have hAu := own_below HAT.out hbu
      have hDu : Dc wu G j0 j1 j2 (n + mx - E) E false := Blk.below HDT.out hbu HDT.out.lt
      have hbwu : Below w.heap.size w wu := hbwt.trans (hbu.mono hbwt.size)
      have hsu := hbu.size
      obtain ⟨nT, hnT⟩ : ∃ nT, nT = T2.length := ⟨_, rfl⟩
      rw [← hnT] at hTu hTl2 hYl ⊢
      have HTU := Lib.hid hTu; have HAU := Lib.hid hAu; have HDU := Lib.hid hDu; have HNT := Lib.hid hnT; have HRU := Lib.hid hru
      clear hTu hAu hDu hnT hvu hru hrA HVT HAT HDT hbu hYl
      go_upto_if 33 with fail
      go_cut [11] (fun s wx => s = .int .i64 E ∧ Hid (Below wu.heap.size wu wx))
      case first =>
        by_cases hz : nT = 0
        · subst hz
          have hE0 : E = 0 := by
            rw [HEE.out]
            exact dec_empty (k := 0) (by rw [← HT2.out]; exact List.eq_nil_of_length_eq_zero HNT.out.symm)
          subst hE0
          go_wp2_with fail
          go_meet
          exact ⟨rfl, Lib.hid (Below.refl _ _)⟩
        · obtain ⟨t, rfl⟩ : ∃ t, nT = t + 1 := ⟨nT - 1, by omega⟩
          have hne : dec true 0 (L ++ lx) ≠ [] := by
            intro e; have := HNT.out; rw [HT2.out, e] at this; cases this
          obtain ⟨⟨r', p', w'⟩, hq1, hq2⟩ := dec_last (L ++ lx) 0 hne
          rw [← HT2.out, List.getLast?_eq_getElem?, ← HNT.out] at hq1
          rw [← HEE.out, Nat.zero_add] at hq2
          simp only [Nat.add_sub_cancel] at hq1 hq2
          obtain ⟨htl, hq3⟩ := List.getElem?_eq_some_iff.1 hq1
          obtain ⟨bu, ou, rfl, _⟩ := HRU.out.form (by rw [pts_len]; omega)
          have hpt := HRU.out.pt htl
          rw [hq3] at hpt
          obtain ⟨_, hc1, hc2⟩ := hpt
          simp only at hc1 hc2
          have ew : IntKind.i64.wrap (t : Int) = (t : Int) := IntWalk.i64_in _ (by omega)
          have ew1 : IntKind.i64.wrap ((t : Int) + 1 - 1) = (t : Int) := by rw [Int.add_sub_cancel]; exact ew
          have es : IntKind.i64.wrap ((p' : Int) + (w' : Int)) = (E : Int) := by rw [IntWalk.i64_in _ (by omega)]; omega
          have hlt2 : (t : Int) < (t : Int) + 1 := by omega
          have hge2 : (0 : Int) ≤ (t : Int) := by omega
          clear hne hq1 hq2 hq3 hz
          go_wp2_with fail
          go_quiet (fail)
          go_wp2_with fail
          go_meet
          exact ⟨rfl, Lib.hid (below_drewN (Below.refl _ _) _)⟩
      case rest =>
        obtain ⟨rfl, hbx⟩ := hcut
        have hTx := own_below HTU.out hbx.out
        have hAx := own_below HAU.out hbx.out
        have hDx : Dc wc G j0 j1 j2 (n + mx - E) E false := Blk.below HDU.out hbx.out HDU.out.lt
        have hbwx : Below w.heap.size w wc := hbwu.trans (hbx.out.mono hbwu.size)
        have hsx := hbx.out.size
        have hrux := (HRU.out.below hbx.out).more hbx.out.size
        obtain ⟨At, ct, rfl, _, _, hrt⟩ := own_form hTx
        have hsm := same_any At Au T2 T2 nT nT ct cu wc hrt hrux HNT.out.symm HNT.out.symm (by omega) (by omega)
        have hss : same T2 T2 = true := by simp [same]
        rw [hss] at hsm
        have HSM := Lib.hid hsm; have HTX := Lib.hid hTx; have HAX := Lib.hid hAx; have HDX := Lib.hid hDx
        clear hsm hss hTx hAx hDx hbx hrux hrt HTU HAU HDU HRU
        go_wp2_with fail
        refine HSM.out.mono ?_
        rintro e wv ⟨rfl, kk, hwv⟩
        have hbv : Below wc.heap.size wc wv := by rw [hwv]; exact below_drewN (Below.refl _ _) _
        have hTv := own_below HTX.out hbv
        have hAv := own_below HAX.out hbv
        have hDv : Dc wv G j0 j1 j2 (n + mx - E) E false := Blk.below HDX.out hbv HDX.out.lt
        have hbwv : Below w.heap.size w wv := hbwx.trans (hbv.mono hbwx.size)
        have hsv := hbv.size
        have hsz : H ≤ wv.heap.size := by omega
        have hst : Hid (St w w2 G w2.heap.size (cat (xs.take (k + 1))) (.slice Aa (n + mx) ca) (.slice At nT ct) wv) := by
          refine Lib.hid ?_
          unfold St
          rw [HLN.out, ← HHE.out, HLNL.out, ← HT2.out, ← HNT.out, ← HEE.out]
          exact ⟨hAv, hTv, ⟨j0, j1, j2, hDv, HKB.out⟩, hbwv, hsz⟩
        obtain ⟨r, hr⟩ : ∃ r, r = n + mx - E := ⟨_, rfl⟩
        rw [← hr] at hDv hes2
        have es : IntKind.i64.wrap ((n : Int) + (mx : Int) - (E : Int)) = (r : Int) := by rw [IntWalk.i64_in _ (by omega)]; omega
        have en : ((r : Int) != (r : Int)) = false := by simp
        have e3 : ¬ (3 : Int) < (r : Int) := by omega
        have e4 : decide ((3 : Int) < (r : Int)) = false := by simp; omega
        have HDV := Lib.hid hDv
        clear hr hwv hTv hAv hDv hbv HSM HTX HAX HDX hbwx hsx
        go_wp2_with fail
        refine (pending_any G r E j0 j1 j2 false wv HDV.out).mono ?_
        rintro e wx ⟨rfl, rfl⟩
        go_wp2_with fail
        refine (pending_any G r E j0 j1 j2 false wv HDV.out).mono ?_
        rintro e wx ⟨rfl, rfl⟩
        go_wp2_with fail
        clear es en e3 e4
        go_roundw
        case rel => exact ⟨k + 1, by omega, by go_num, hst⟩
        case measure => simp [intOf]; omega
    · obtain ⟨Aa, ca, rfl, hca, hcma, _⟩ := own_form hall
      have hdc := dec_close 0 L
      rw [← HT.out, ← HQ.out, ← HNL.out] at hdc
      have HDC := Lib.hid hdc; have HAL := Lib.hid hall; have HTO := Lib.hid htold; have HD := Lib.hid hD
      have hws := hbw.size
      clear hdc hall htold hD hkp
      go_wp2_with fail
      refine (close_any G (n - q) q k0 k1 k2 false wr HD.out).mono ?_
      rintro e wa ⟨Ad, rfl, hrd, hDd, hgd⟩
      obtain ⟨Z, hZ⟩ : ∃ Z, Z = last (n - q) q := ⟨_, rfl⟩
      have hZl : Z.length ≤ 1 := by rw [hZ]; exact last_len _ _
      rw [← hZ] at hrd ⊢
      have HDC2 : Hid (dec false 0 L = T ++ Z) := Lib.hid (by rw [HDC.out, hZ, Nat.zero_add]; rfl)
      have hbwa : Below w.heap.size w wa := Below.grown hbw hgd hbw.size (fun k hk => by cases hk; omega)
      have hTa := own_far HTO.out hgd (by omega)
      have hAa := own_far HAL.out hgd (by omega)
      have hsa := hgd.size
      have HLZ : Hid ((pts Z).length = Z.length * 3) := Lib.hid (pts_len Z)
      have HTA := Lib.hid hTa; have HAA := Lib.hid hAa; have HDD := Lib.hid hDd
      clear hZ hTa hAa hDd hgd HTO HAL HD HDC
      go_wp2_with (first
        | (at_builtin; refine wpList_append_rd _ rfl (.tmp 68) (.tmp 70) _ rfl H 37 ip _ 3 24 Try.underlying25 ip1 ip2 ip3 ip4 rfl (by decide) _ T.length (pts T) rfl HTA.out wa.heap.size Ad Z.length Z.length (pts Z) rfl HLZ.out hrd (pts_one Z) (by unfold maxLen; omega) (by omega) (by omega) ?_; intro vt wt hvt hgt hatt))
      have hbwt : Below w.heap.size w wt := Below.grown hbwa hgt hbwa.size (fun k hk => by have := (HTA.out.lt k hk).1; omega)
      have hAt := own_keep HAA.out hgt (fun k h1 h2 => own_apart HAA.out HTA.out (by decide) k h1 h2)
      have hDt : Dc wt G k0 k1 k2 0 q true := Blk.grown HDD.out hgt (fun e => by have := (HTA.out.lt G e.symm).1; omega)
      have hst := hgt.size
      rw [← pts_append] at hvt
      obtain ⟨At, ct, rfl, _, _, hrt⟩ := own_form hvt
      have hrA := Rd.of_own hAt
      have HDT := Lib.hid hDt
      clear hvt hAt hDt hgt hatt HTA HAA HDD hrd
      refine (decode_any Aa L n ca wt hrA HNL.out.symm hca hcma (by omega)).mono ?_
      rintro e wu ⟨vu, rfl, hvu, hbu⟩
      rw [HDC2.out] at hvu
      obtain ⟨Au, cu, rfl, _, _, hru⟩ := own_form hvu
      have hDu : Dc wu G k0 k1 k2 0 q true := Blk.below HDT.out hbu HDT.out.lt
      have hbwu : Below w.heap.size w wu := hbwt.trans (hbu.mono hbwt.size)
      have hrtu := (hrt.below hbu).more hbu.size
      have hsm := same_any At Au (T ++ Z) (T ++ Z) (T.length + Z.length) (T ++ Z).length ct cu wu hrtu hru (by rw [List.length_append]) rfl (by omega) (by rw [List.length_append]; omega)
      have hss : same (T ++ Z) (T ++ Z) = true := by simp [same]
      rw [hss] at hsm
      obtain ⟨nZ, hnZ⟩ : ∃ nZ, nZ = (T ++ Z).length := ⟨_, rfl⟩
      rw [← hnZ] at hsm ⊢
      have HSM := Lib.hid hsm; have HDU := Lib.hid hDu
      clear hsm hss hDu hbu hvu hru hrt hrtu hrA HDT hnZ
      go_wp2_with fail
      refine HSM.out.mono ?_
      rintro e wv ⟨rfl, kk, hwv⟩
      have hbv : Below wu.heap.size wu wv := by rw [hwv]; exact below_drewN (Below.refl _ _) _
      have hDv : Dc wv G k0 k1 k2 0 q true := Blk.below HDU.out hbv HDU.out.lt
      have hbwv : Below w.heap.size w wv := hbwu.trans (hbv.mono hbwu.size)
      have HDV := Lib.hid hDv
      clear hwv hbv hDv HSM HDU
      go_wp2_with fail
      refine (pending_any G 0 q k0 k1 k2 true wv HDV.out).mono ?_
      rintro e wx ⟨rfl, rfl⟩
      go_wp2_with fail
      refine (write_closed G 0 q m d k0 k1 k2 B wv HDV.out).mono ?_
      rintro e wx ⟨rfl, rfl⟩
      go_wp2_with fail
      refine (close_zero G q k0 k1 k2 true wv HDV.out).mono ?_
      rintro e wx ⟨Ac, rfl, _, hDx, hgx⟩
      have hl0 : (last 0 q).length = 0 := rfl
      rw [hl0]
      have hbwx : Below w.heap.size w wx := Below.grown hbwv hgx hbwv.size (fun k hk => by cases hk; omega)
      have HDX := Lib.hid hDx
      clear hDx hgx HDV
      go_wp2_with fail
      refine (pending_any G 0 q k0 k1 k2 true wx HDX.out).mono ?_
      rintro e wz ⟨rfl, rfl⟩
      go_wp2_with fail
      go_ret
      exact ⟨rfl, hbwx⟩

theorem contract (H : Type) (enc : TypeId × Value → H) (W : World) (base : Nat) (args : Array Value) (ds gs : List (DataW H)) (before : List MemPlace)
    (hval : ∀ (j : Nat) t v, Try.f5.params[j]? = some t → args[j]? = some v → Value.okWide Try.prog W .any base t v)
    (hW : DataW.Whole enc Try.prog Try.f5.params.toList Rows.utfChunksSpec.vars false W args.toList ds gs before) (hk : Rows.uptoSmall H (ds ++ gs) = true) :
    Calls Try.prog 5 args W fun e W' => ∃ v, e = .returned v ∧ Rows.utfChunksSpec.post enc Try.prog Try.f5 false true false false W args v W' := by
  have hW' := hW
  obtain ⟨p, q, hA0, hV, rfl, hfz, hnd⟩ := hW
  have hA : DataW.TrodAll enc Try.prog W 0 (fun _ => true) true Try.f5.params.toList args.toList ds p := hA0
  rw [Try.params5] at hA hval
  obtain ⟨v0, vs0, d0, ds0, p0, q0, hargs, rfl, rfl, h0, r0⟩ := trodAll_cons hA
  obtain ⟨v1, vs1, d1, ds1, p1, q1, rfl, rfl, rfl, h1, r1⟩ := trodAll_cons r0
  obtain ⟨rfl, rfl, rfl⟩ := trodAll_nil r1
  obtain rfl : args = #[v0, v1] := by cases args; simp_all
  obtain ⟨rfl, rfl⟩ := trodVars_none hV
  obtain ⟨a0, len0, cap0, rfl⟩ := okWide_slice Try.underlying33 (hval 0 33 v0 rfl rfl)
  have k0 := h0
  have lt0 : ∀ x ∈ p0, x.block < W.heap.size := by obtain ⟨m, hm⟩ := k0; exact DataW.trod_lt m _ _ _ hm
  obtain ⟨l0, hl0, hc0, hm0, hr0, hb0⟩ := open_chunks h0
  obtain ⟨a1, len1, cap1, rfl⟩ := okWide_slice Try.underlying22 (hval 1 22 v1 rfl rfl)
  have k1 := h1
  have lt1 : ∀ x ∈ p1, x.block < W.heap.size := by obtain ⟨m, hm⟩ := k1; exact DataW.trod_lt m _ _ _ hm
  obtain ⟨l1, hl1, hc1, hm1, hr1, hb1⟩ := open_bytes h1
  have hbd := bulk_bound hk
  simp only [List.append_nil, Rows.uptoBulkAll] at hbd
  clear hA0
  refine (walk a0 l0 len0 cap0 a1 len1 cap1 W hr0 hl0 hc0 hm0 (by omega)).mono fun e W' ⟨he, bel⟩ => ?_
  subst he
  exact ⟨_, rfl, _, _, _, [], _, [], hW', trodAll_mk1 (shut_bool Try.underlying4 _), (trodAll_cons_mk (Below.trod laidOut (by kernel_rfl) (of_decide_eq_true (by kernel_rfl)) k0 bel lt0) (trodAll_cons_mk (Below.trod laidOut (by kernel_rfl) (of_decide_eq_true (by kernel_rfl)) k1 bel lt1) trodAll_mk0)), rfl, bel.frame _, fun h => by cases h⟩

set_option maxRecDepth 100000 in
theorem lifted (os : Os) (started : os.Started) (H : Type) (enc : TypeId × Value → H) (F : Stop.Interp) :
    ReturnsInHanded {} Try.checked os 5 .any ((Rows.OpenSpec.upto Rows.utfChunksSpec).pre6 enc Try.prog Try.f5 Rows.utfChunksUptoRow.domain false) (((Rows.OpenSpec.upto Rows.utfChunksSpec).at F).post enc Try.prog Try.f5 false true false false) := by
  refine returnsInHanded_of_cond (C := Try.checked) (s := Rows.OpenSpec.upto Rows.utfChunksSpec) (k := Rows.uptoSmall) rfl own started (by kernel_rfl) Try.func5
    (OpenSpec.witness (enc := enc) (C := Try.checked) (s := Rows.OpenSpec.upto Rows.utfChunksSpec) (k := Rows.uptoSmall) rfl false ⟨#[], #[.slice none 0 0, .slice none 0 0], []⟩ 8 (by kernel_rfl) (by kernel_rfl) (by kernel_rfl)
      (x := ([.nil, .nil], [], [])) (by kernel_rfl) rfl (by kernel_rfl)) ?_
  intro W base args ds gs before hval hW _ hk _
  exact contract H enc W base args ds gs before hval hW hk

/-- THE STATEMENT -/
theorem proved : Rows.UtfChunksUptoSaid :=
  OpenClaim.holds_of_cond 5 Try.f5 rfl rfl rfl rfl rfl rfl rfl ⟨rfl, rfl, rfl, rfl, rfl⟩ rfl rfl rfl rfl rfl (by kernel_rfl) Try.func5 (by kernel_rfl)
    (of_decide_eq_true (by kernel_rfl)) (by unfold Func.isWrapper; first | (rw [if_pos (by decide +kernel)]; kernel_rfl) | (rw [if_neg (by decide +kernel)]; exact ⟨rfl, rfl⟩))
    (fun os started H enc _ F => lifted os started H enc F)
end Go.Proofs.Ytginlfofijbpjaa.LawUtfChunks
