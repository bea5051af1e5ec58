/-
  Whatever numbers there are: marks of one class stand in their normal form as they stood. Conditions: the arguments hold at most 1048576 values; the package's tables are laid as the program's text lays them (tied).
-/
import Derived.Test.YtmgpkjiahdacfaaDoorNormOpen
namespace Go.Proofs.YtmgpkjiahdacfaaDoor.LawNormStable
open Go.ChangeShapes Go.WideShapes Go.ChangeAt Go.RowKit
open Utf hiding infoI32 rd_new own_form rdec_any below_drewN new_any write_any close_any
open Ucd hiding grow same Told
open Norm

theorem pk_yes (c : Int) (l : List Int) {x : Int} (h : cls x = 0 ∨ cls x = c) : Norm.pick c (l ++ [x]) = Norm.pick c l ++ [x] := by
  rcases h with h | h <;> simp [Norm.pick, h]
theorem pk_no (c : Int) (l : List Int) {x : Int} (h : cls x ≠ 0) (h2 : cls x ≠ c) : Norm.pick c (l ++ [x]) = Norm.pick c l := by simp [Norm.pick, h, h2]
theorem pk_len (c : Int) (l : List Int) : (Norm.pick c l).length ≤ l.length := List.length_filter_le _ _

set_option maxHeartbeats 16000000 in
set_option maxRecDepth 100000 in
/-- what the closure picks -/
theorem pick_any (A : Option Addr) (l : List Int) (n c bx : Nat) (z : Int) (w : World) (hr : Rd w w.heap.size A (nums l)) (hn : l.length = n) (hsm : n ≤ 4194304) (hz : w.cell? ⟨bx, 0, none⟩ = some (.int .u8 z)) (hbx : bx < w.heap.size) (h0 : 0 ≤ z) (h1 : z ≤ 255) :
    Calls Tryd.prog 30 #[.slice A n c, .pointer (some ⟨bx, 0, none⟩)] w (Mine w.heap.size w (Norm.pick z l)) := by
  obtain ⟨i0, hi, hz0, hz1, hz2⟩ := info_parts Ucd.infoI32
  have HN := Lib.hid hn
  have HR := Lib.hid hr
  have HZ := Lib.hid hz
  clear hn hr hz
  go_enter Tryd.func30, Tryd.ntmps30
  go_wp2_with fail
  go_loopw [4, 10] (fun vo i wr => ∃ k : Nat, k ≤ n ∧ i = .int .i64 k ∧ Hid (wr.ownsRow w.heap.size 21 1 vo (Norm.pick z (l.take k)).length (nums (Norm.pick z (l.take k)))) ∧ Hid (Below w.heap.size w wr)) (fun _ i _ => n - (intOf i).toNat)
  case atStart => exact ⟨0, Nat.zero_le _, rfl, Lib.hid (World.ownsRow_nil _ _ _ _), Lib.hid (Below.refl _ _)⟩
  case round =>
    obtain ⟨k, hk, rfl, HO, HB⟩ := hrel
    by_cases hlt : k < n
    · have hkl : k < l.length := by rw [HN.out]; exact hlt
      obtain ⟨b, o, rfl, hbH⟩ := HR.out.form (by rw [nums_len]; omega)
      have hcell : wr.cell? ⟨b, o + k, none⟩ = some (.int .i32 l[k]) := (HR.out.below HB.out).num hkl
      have hzc : wr.cell? ⟨bx, 0, none⟩ = some (.int .u8 z) := (HB.out.cell (p := ⟨bx, 0, none⟩) hbx).trans HZ.out
      have HTK2 := Lib.hid (show l.take (k + 1) = l.take k ++ [l[k]] from List.take_succ_eq_append_getElem hkl)
      generalize l[k] = x at hcell HTK2
      have hfn : (Norm.pick z (l.take k)).length ≤ 4194304 := by have := pk_len z (l.take k); rw [List.length_take] at this; omega
      have HYES := Lib.hid (fun (h : cls x = 0 ∨ cls x = z) => show Norm.pick z (l.take (k + 1)) = Norm.pick z (l.take k) ++ [x] by rw [HTK2.out, pk_yes _ _ h])
      have HNO := Lib.hid (fun (h : cls x ≠ 0) (h2 : cls x ≠ z) => show Norm.pick z (l.take (k + 1)) = Norm.pick z (l.take k) by rw [HTK2.out, pk_no _ _ h h2])
      generalize Norm.pick z (l.take k) = F at HO hfn HYES HNO
      obtain ⟨f, hf⟩ : ∃ f, f = F.length := ⟨_, rfl⟩
      rw [← hf] at HO hfn
      have HFL2 := Lib.hid hf
      have hb3 : w.heap.size ≤ wr.heap.size := HB.out.size
      have HC0 := Lib.hid (rclass_any x)
      have hcase : (cls x = 0 ∧ (cls x == 0) = true ∧ (cls x = 0 ∨ cls x = z)) ∨ ((cls x == 0) = false ∧ (cls x == z) = true ∧ (cls x = 0 ∨ cls x = z)) ∨ ((cls x == 0) = false ∧ (cls x == z) = false ∧ cls x ≠ 0 ∧ cls x ≠ z) := by
        by_cases h1 : cls x = 0
        · exact .inl ⟨h1, by simp [h1], .inl h1⟩
        · by_cases h2 : cls x = z
          · exact .inr (.inl ⟨by simpa using h1, by simpa using h2, .inr h2⟩)
          · exact .inr (.inr ⟨by simpa using h1, by simpa using h2, h1, h2⟩)
      have HCL := Lib.hid (show ∀ q : Int, q = cls x → q = cls x from fun _ h => h)
      generalize cls x = cx at HYES HNO HC0 hcase HCL
      clear hkl hf HTK2 HCL
      rcases hcase with ⟨hc, hcb, hy⟩ | ⟨hcb, hcb2, hy⟩ | ⟨hcb, hcb2, hy1, hy2⟩
      · have HST := Lib.hid (HYES.out hy)
        clear hy HYES HNO
        subst hc
        go_wp2_with (first | (go_at_call 22; refine (HC0.out _).mono ?_; rintro e w3 ⟨rfl, rfl⟩) | (at_builtin; refine wpList_append_rd _ rfl (.tmp 24) (.tmp 26) _ rfl w.heap.size 21 i0 _ 1 4 Tryd.underlying22 hi hz0 hz1 hz2 rfl (by decide) u4 f (nums F) rfl (HO.out.alloc _) _ (some ⟨wr.heap.size, 0, none⟩) 1 1 [.int .i32 x] rfl rfl (Ucd.rd_new _ _ [.int .i32 x] _ rfl) (nums_one [x]) (by unfold maxLen; omega) (by omega) (by simp; omega) ?_; intro v6 w6 hown6 hgr6 _))
        have HO6 := Lib.hid (show w6.ownsRow w.heap.size 21 1 v6 (Norm.pick z (l.take (k + 1))).length (nums (Norm.pick z (l.take (k + 1)))) by
          rw [HST.out, List.length_append, ← HFL2.out, nums_append]; exact hown6)
        have HB6 := Lib.hid ((HB.out.alloc hb3 (.cells [Value.int .i32 x].toArray 21)).grown hgr6 (by simp; omega) (fun y hy => (HO.out.lt y hy).1))
        clear hown6 hgr6 HO HB
        go_roundw
        case rel => exact ⟨k + 1, by omega, by go_num, HO6, HB6⟩
        case measure => simp [intOf]; omega
      · have HST := Lib.hid (HYES.out hy)
        clear hy HYES HNO
        go_wp2_with (first | (go_at_call 22; refine (HC0.out _).mono ?_; rintro e w3 ⟨rfl, rfl⟩) | (at_builtin; refine wpList_append_rd _ rfl (.tmp 24) (.tmp 26) _ rfl w.heap.size 21 i0 _ 1 4 Tryd.underlying22 hi hz0 hz1 hz2 rfl (by decide) u4 f (nums F) rfl (HO.out.alloc _) _ (some ⟨wr.heap.size, 0, none⟩) 1 1 [.int .i32 x] rfl rfl (Ucd.rd_new _ _ [.int .i32 x] _ rfl) (nums_one [x]) (by unfold maxLen; omega) (by omega) (by simp; omega) ?_; intro v6 w6 hown6 hgr6 _))
        have HO6 := Lib.hid (show w6.ownsRow w.heap.size 21 1 v6 (Norm.pick z (l.take (k + 1))).length (nums (Norm.pick z (l.take (k + 1)))) by
          rw [HST.out, List.length_append, ← HFL2.out, nums_append]; exact hown6)
        have HB6 := Lib.hid ((HB.out.alloc hb3 (.cells [Value.int .i32 x].toArray 21)).grown hgr6 (by simp; omega) (fun y hy => (HO.out.lt y hy).1))
        clear hown6 hgr6 HO HB
        go_roundw
        case rel => exact ⟨k + 1, by omega, by go_num, HO6, HB6⟩
        case measure => simp [intOf]; omega
      · have HST := Lib.hid (HNO.out hy1 hy2)
        rw [HFL2.out, ← HST.out] at HO
        clear hy1 hy2 HYES HNO HST
        go_wp2_with (first | (go_at_call 22; refine (HC0.out _).mono ?_; rintro e w3 ⟨rfl, rfl⟩))
        go_roundw
        case rel => exact ⟨k + 1, by omega, by go_num, HO, HB⟩
        case measure => simp [intOf]; omega
    · have HXT := Lib.hid (show l.take k = l by rw [List.take_of_length_le (by rw [HN.out]; omega)])
      rw [HXT.out] at HO
      go_wp2
      go_ret
      exact ⟨u4, rfl, HO.out, HB.out⟩

set_option maxHeartbeats 16000000 in
set_option maxRecDepth 100000 in
theorem walk (A : Option Addr) (l : List Int) (n c : Nat) (z : Int) (w : World) (hL : Laid w) (hr : Rd w w.heap.size A (nums l)) (hn : l.length = n) (hsm : n ≤ 1048576) (h0 : 0 ≤ z) (h1 : z ≤ 255) :
    Calls Tryd.prog 11 #[.slice A n c, .int .u8 z] w (Law w) := by
  obtain ⟨i0, hi, hz0, hz1, hz2⟩ := info_parts Ucd.infoI32
  have HN := Lib.hid hn
  have HL := Lib.hid hL
  have HR := Lib.hid hr
  obtain ⟨w0, hw0⟩ : ∃ w0, w0 = w.alloc (.cells #[.int .u8 z] 5) := ⟨_, rfl⟩
  have hb0 : Below w.heap.size w w0 := by rw [hw0]; exact (Below.refl _ _).alloc (Nat.le_refl _) _
  have hz0' : w0.cell? ⟨w.heap.size, 0, none⟩ = some (.int .u8 z) := by rw [hw0]; simp
  have hs0 : w.heap.size < w0.heap.size := by rw [hw0]; simp
  have HW0 := Lib.hid hw0
  have HB0 := Lib.hid hb0
  have HZ0 := Lib.hid hz0'
  have HF := Lib.hid (fixed_any w0 (hL.next hb0))
  have HNL := Lib.hid (fun (u : World) (h1 : Laid u) (h2 : Rd u u.heap.size A (nums l)) => normal_any A l n c u h1 h2 hn (by omega))
  have HPK := Lib.hid (show Norm.pick z (normal l) = Norm.pick z (fulls l) from pick_nf z (fulls l))
  have hxl : (normal l).length = (fulls l).length := nf_len (fulls l)
  have hfl := fulls_len l
  have HFL := Lib.hid hfl
  generalize normal l = X at HNL hxl HPK
  have HXL := Lib.hid hxl
  clear hn hL hr hw0 hb0 hz0' hfl hxl
  go_enter Tryd.func11, Tryd.ntmps11
  go_wp2_with fail
  rw [← HW0.out]
  refine HF.out.mono ?_
  rintro e w1 ⟨rfl, hb1⟩
  have HB1 := Lib.hid hb1
  clear hb1 HF
  go_wp2_with fail
  go_loopw [6, 14] (fun vo i wr => ∃ k : Nat, k ≤ n ∧ i = .int .i64 k ∧ Hid (wr.ownsRow w0.heap.size 21 1 vo (fulls (l.take k)).length (nums (fulls (l.take k)))) ∧ Hid (Below w0.heap.size w0 wr)) (fun _ i _ => n - (intOf i).toNat)
  case atStart => exact ⟨0, Nat.zero_le _, rfl, Lib.hid (World.ownsRow_nil _ _ _ _), HB1⟩
  case round =>
    clear HB1
    obtain ⟨k, hk, rfl, HO, HB⟩ := hrel
    by_cases hlt : k < n
    · have hkl : k < l.length := by rw [HN.out]; exact hlt
      obtain ⟨b, o, rfl, hbl⟩ := HR.out.form (by rw [nums_len]; omega)
      have hcell : wr.cell? ⟨b, o + k, none⟩ = some (.int .i32 l[k]) := (((HR.out.below HB0.out).more HB0.out.size).below HB.out).num hkl
      have HTK := Lib.hid (show fulls (l.take (k + 1)) = fulls (l.take k) ++ fullF l[k] by rw [List.take_succ_eq_append_getElem hkl, fulls_append, fulls_cons]; simp [fulls])
      have h3 := full_three l[k]
      have HC := Lib.hid (rdec_any l[k] wr)
      have hdl : (fulls (l.take k)).length ≤ 3145728 := by have := fulls_len (l.take k); rw [List.length_take] at this; omega
      generalize fulls (l.take k) = D at HO HTK hdl
      generalize l[k] = r at hcell HTK h3 HC
      generalize fullF r = xs at HTK h3 HC
      obtain ⟨f, hf⟩ : ∃ f, f = D.length := ⟨_, rfl⟩
      rw [← hf] at HO hdl
      have HFD := Lib.hid hf
      clear hkl hf
      go_wp2_with fail
      refine HC.out.mono ?_
      rintro e w2 ⟨Ad, cd, rfl, hd1, hd2, hrd, hb2⟩
      have HO2 := Lib.hid (Ucd.own_below HO.out hb2)
      have HB2 := Lib.hid (HB.out.trans (hb2.mono HB.out.size))
      have HRD := Lib.hid hrd
      obtain ⟨m, hm⟩ : ∃ m, m = xs.length := ⟨_, rfl⟩
      rw [← hm] at h3 hd1 ⊢
      have HM := Lib.hid hm
      have hb3 : w0.heap.size ≤ w2.heap.size := HB2.out.size
      clear hb2 hrd hm HC HO HB
      go_wp2_with (at_builtin; refine wpList_append_rd _ rfl (.tmp 18) (.tmp 20) _ rfl w0.heap.size 21 i0 _ 1 4 Tryd.underlying22 hi hz0 hz1 hz2 rfl (by decide) u6 f (nums D) rfl HO2.out _ Ad m cd (nums xs) rfl (by rw [nums_len, HM.out, Nat.mul_one]) HRD.out (nums_one xs) (by unfold maxLen; omega) (by omega) hb3 ?_; intro v6 w6 hown6 hgr6 _)
      have HO6 := Lib.hid (show w6.ownsRow w0.heap.size 21 1 v6 (fulls (l.take (k + 1))).length (nums (fulls (l.take (k + 1)))) by
        rw [HTK.out, List.length_append, ← HFD.out, ← HM.out, nums_append]; exact hown6)
      have HB6 := Lib.hid (HB2.out.grown hgr6 hb3 (fun y hy => (HO2.out.lt y hy).1))
      clear hown6 hgr6 HO2 HB2 HRD
      go_roundw
      case rel => exact ⟨k + 1, by omega, by go_num, HO6, HB6⟩
      case measure => simp [intOf]; omega
    · have HLT := Lib.hid (show l.take k = l by rw [List.take_of_length_le (by rw [HN.out]; omega)])
      rw [HLT.out] at HO
      obtain ⟨Aw, cw, rfl, _, _, hrw⟩ := own_form HO.out
      have HRW := Lib.hid hrw
      have HBW := Lib.hid (HB0.out.trans (HB.out.mono HB0.out.size))
      have HL2 := Lib.hid (HL.out.below HBW.out HL.out.size)
      have HZ2 := Lib.hid ((HB.out.cell (p := ⟨w.heap.size, 0, none⟩) hs0).trans HZ0.out)
      have hm2 : (fulls l).length ≤ 3145728 := by have := HFL.out; have := HN.out; omega
      have HML := Lib.hid hm2
      clear HO hrw HLT
      go_wp2_with fail
      refine (HNL.out wr HL2.out ((HR.out.below HBW.out).more HBW.out.size)).mono ?_
      rintro e w4 ⟨v4, rfl, ho4, hb4⟩
      obtain ⟨A4, c4, rfl, _, _, hr4⟩ := own_form ho4
      have HB4 := Lib.hid (HBW.out.trans (hb4.mono HBW.out.size)); have HR4 := Lib.hid hr4; have HRW4 := Lib.hid ((HRW.out.below hb4).more hb4.size)
      have hlt0 : w.heap.size < wr.heap.size := Nat.lt_of_lt_of_le hs0 HB.out.size
      have HZ4 := Lib.hid ((hb4.cell (p := ⟨w.heap.size, 0, none⟩) hlt0).trans HZ2.out)
      have hlt4 : w.heap.size < w4.heap.size := Nat.lt_of_lt_of_le hlt0 hb4.size
      clear ho4 hr4 hb4 HNL HRW
      go_wp2_with fail
      refine (pick_any A4 X X.length c4 w.heap.size z w4 HR4.out rfl (by rw [HXL.out]; omega) HZ4.out hlt4 h0 h1).mono ?_
      rintro e w5 ⟨v5, rfl, ho5, hb5⟩
      obtain ⟨A5, c5, rfl, _, _, hr5⟩ := own_form ho5
      have HB5 := Lib.hid (HB4.out.trans (hb5.mono HB4.out.size)); have HR5 := Lib.hid hr5; have HRW5 := Lib.hid ((HRW4.out.below hb5).more hb5.size)
      have HZ5 := Lib.hid ((hb5.cell (p := ⟨w.heap.size, 0, none⟩) hlt4).trans HZ4.out)
      have hlt5 : w.heap.size < w5.heap.size := Nat.lt_of_lt_of_le hlt4 hb5.size
      clear ho5 hr5 hb5 HRW4
      go_wp2_with fail
      refine (pick_any Aw (fulls l) (fulls l).length cw w.heap.size z w5 HRW5.out rfl (by have := HML.out; omega) HZ5.out hlt5 h0 h1).mono ?_
      rintro e w6 ⟨v6, rfl, ho6, hb6⟩
      obtain ⟨A6, c6, rfl, _, _, hr6⟩ := own_form ho6
      have HB6 := Lib.hid (HB5.out.trans (hb6.mono HB5.out.size)); have HR6 := Lib.hid hr6; have HR56 := Lib.hid ((HR5.out.below hb6).more hb6.size)
      clear ho6 hr6 hb6
      rw [HPK.out] at HR56 ⊢
      have HPL := Lib.hid (show (Norm.pick z (fulls l)).length ≤ 1099511627776 by have := pk_len z (fulls l); have := HML.out; omega)
      have HXX := Lib.hid (show Ucd.same (Norm.pick z (fulls l)) (Norm.pick z (fulls l)) = true from decide_eq_true rfl)
      go_wp2_with fail
      refine (same_any A5 A6 (Norm.pick z (fulls l)) (Norm.pick z (fulls l)) _ _ c5 c6 w6 HR56.out HR6.out rfl rfl HPL.out HPL.out).mono ?_
      rintro e w7 ⟨rfl, q7, hw7⟩
      have HB7 := Lib.hid (show Below w.heap.size w w7 by rw [hw7]; exact below_drewN HB6.out q7)
      rw [HXX.out]
      clear hw7
      go_wp2_with fail
      go_ret
      exact ⟨rfl, HB7.out⟩

theorem contract (H : Type) (enc : TypeId × Value → H) (W : World) (base : Nat) (args : Array Value) (ds gs : List (DataW H)) (before : List MemPlace)
    (hval : ∀ (j : Nat) t v, Tryd.f11.params[j]? = some t → args[j]? = some v → Value.okWide Tryd.prog W .any base t v)
    (hW : DataW.Whole enc Tryd.prog Tryd.f11.params.toList Rows.normStableSpec.vars false W args.toList ds gs before) (hLL : laidMetH Tryd.prog Rows.normStableUptoRow.laid W) (hk : Rows.uptoSmall H (ds ++ gs) = true) :
    Calls Tryd.prog 11 args W fun e W' => ∃ v, e = .returned v ∧ Rows.normStableSpec.post enc Tryd.prog Tryd.f11 false true false false W args v W' := by
  have hL : Laid W := laid_of hLL
  have hW' := hW
  obtain ⟨p, q, hA0, hV, rfl, hfz, hnd⟩ := hW
  have hA : DataW.TrodAll enc Tryd.prog W 0 (fun _ => true) true Tryd.f11.params.toList args.toList ds p := hA0
  rw [Tryd.params11] at hA hval
  obtain ⟨v0, vs0, d0, ds0, p0, q0, hargs, rfl, rfl, h0, r0⟩ := trodAll_cons hA
  obtain ⟨v1, vs1, d1, ds1, p1, q1, rfl, rfl, rfl, h1, r1⟩ := trodAll_cons r0
  obtain ⟨rfl, rfl, rfl⟩ := trodAll_nil r1
  obtain rfl : args = #[v0, v1] := by cases args; simp_all
  obtain ⟨rfl, rfl⟩ := trodVars_none hV
  obtain ⟨a0, len0, cap0, rfl⟩ := okWide_slice Tryd.underlying22 (hval 0 22 v0 rfl rfl)
  have k0 := h0
  have lt0 : ∀ x ∈ p0, x.block < W.heap.size := by obtain ⟨m, hm⟩ := k0; exact DataW.trod_lt m _ _ _ hm
  obtain ⟨l0, hl0, hc0, hm0, hw0, hr0, hb0, hd0⟩ := open_nums h0
  obtain ⟨z1, rfl, rfl, rfl, w1⟩ := open_int Tryd.underlying5 (hval 1 5 v1 rfl rfl) h1
  have hbd := bulk_bound hk
  simp only [List.append_nil, Rows.uptoBulkAll] at hbd
  clear hA0
  refine (walk a0 l0 len0 cap0 z1 W hL hr0 hl0 (by omega) (u8_bounds w1).1 (u8_bounds w1).2).mono fun e W' ⟨he, bel⟩ => ?_
  subst he
  exact ⟨_, rfl, _, _, _, [], _, [], hW', trodAll_mk1 (shut_bool Tryd.underlying4 _), (trodAll_cons_mk (Below.trod laidOut (by kernel_rfl) (of_decide_eq_true (by kernel_rfl)) k0 bel lt0) (trodAll_cons_mk (shut_int Tryd.underlying5 w1) trodAll_mk0)), rfl, bel.frame _, fun h => by cases h⟩

theorem laid_met (os : Os) : laidMet Tryd.prog Rows.normStableUptoRow.laid ((laidWorld os).forCall (fun _ _ => 0) ⟨#[], #[.slice none 0 0, .int .u8 0], []⟩).memory :=
  laidMet_of_run' 8 (by kernel_rfl) (by kernel_rfl)
theorem reads (os : Os) {H : Type} (enc : TypeId × Value → H) : ∃ places, DataW.whole enc Tryd.prog ((laidWorld os).forCall (fun _ _ => 0) ⟨#[], #[.slice none 0 0, .int .u8 0], []⟩).memory Tryd.f11.params.toList Rows.normStableSpec.vars false (#[.slice none 0 0, .int .u8 0] : Array Value).toList 8 = some ([.nil, .lit (.int .u8 0)], [], places) :=
  ⟨[], by kernel_rfl⟩

set_option maxRecDepth 100000 in
theorem lifted (os : Os) (started : os.Started) (H : Type) (enc : TypeId × Value → H) (F : Stop.Interp) :
    ReturnsInHanded {} Tryd.checked os 11 .any ((Rows.OpenSpec.upto Rows.normStableSpec).preRow enc Tryd.prog Tryd.f11 Rows.normStableUptoRow.domain false Rows.normStableUptoRow.laid) (((Rows.OpenSpec.upto Rows.normStableSpec).at F).post enc Tryd.prog Tryd.f11 false true false false) := by
  obtain ⟨places, hx⟩ := reads os enc
  refine returnsInHanded_of_row (C := Tryd.checked) (s := Rows.OpenSpec.upto Rows.normStableSpec) own started (by kernel_rfl) Tryd.func11
    (witness_row_at (enc := enc) (C := Tryd.checked) false (laidWorld os) #[.slice none 0 0, .int .u8 0] rfl (by kernel_rfl) (by kernel_rfl) (by kernel_rfl)
      (OpenSpec.preRow_of_cond 8 hx (by kernel_rfl) (fun k hk => by cases hk; kernel_rfl) (by kernel_rfl) (laid_met os))) ?_
  intro W base args ds gs before hval hW _ hcond _ hL _ _
  exact contract H enc W base args ds gs before hval hW hL (hcond _ rfl)

theorem said : Rows.NormStableUptoSaid :=
  OpenClaim.holds_of_cond 11 Tryd.f11 rfl rfl rfl rfl rfl rfl rfl ⟨rfl, rfl, rfl, rfl, rfl⟩ rfl rfl rfl rfl rfl (by kernel_rfl) Tryd.func11 (by kernel_rfl)
    (of_decide_eq_true (by kernel_rfl)) (by unfold Func.isWrapper; first | (rw [if_pos (by decide +kernel)]; kernel_rfl) | (rw [if_neg (by decide +kernel)]; exact ⟨rfl, rfl⟩))
    (fun os started H enc _ F => by rw [OpenClaim.pre_eq_preRow]; exact lifted os started H enc F)

/-- no parameter wants a stand-in; the program's own looks are off -/
theorem plain (f : FuncId) (fn : Func) (hf : Tryd.pinned.checked.prog.funcNamed Rows.normStableUptoRow.func = some f) (hfn : Tryd.pinned.checked.prog.funcs[f]? = some fn) :
    false = Tryd.pinned.checked.prog.looks [] ∧ ∀ (j : Nat) t, fn.params[j]? = some t → Tryd.pinned.checked.prog.wantsStandIn t = false := by
  obtain rfl : f = 11 := Option.some.inj ((show Tryd.prog.funcNamed Rows.normStableUptoRow.func = some 11 by kernel_rfl).symm.trans hf) |>.symm
  obtain rfl : fn = Tryd.f11 := (Option.some.inj (Tryd.func11.symm.trans hfn)).symm
  refine ⟨by kernel_rfl, fun j t ht => ?_⟩
  rw [Tryd.params11] at ht
  have hm := Array.mem_of_getElem? ht
  simp only [List.mem_toArray, List.mem_cons, List.not_mem_nil, or_false] at hm
  rcases hm with rfl | rfl
  all_goals first | exact (show Tryd.prog.wantsStandIn 22 = false by kernel_rfl) | exact (show Tryd.prog.wantsStandIn 5 = false by kernel_rfl)

/-- THE STATEMENT -/
theorem proved : Rows.NormStableUptoCardSaid :=
  Claim7.holds_tied_plain_at .later [] _ _ _ _ said (fun _ h => by cases h) (by kernel_rfl) (fun _ h => by cases h) normStableUpto_row_tie rfl ⟨rfl, rfl⟩ (by kernel_rfl) rfl plain (by kernel_rfl)
end Go.Proofs.YtmgpkjiahdacfaaDoor.LawNormStable
