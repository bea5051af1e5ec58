/-
  Whatever numbers there are: the starters of their normal form are those of all full decompositions, in their order, and it has as many code points as these. Conditions: the argument holds at most 1048576 values; the package's tables are laid as the program's text lays them (tied).
-/
import Derived.Test.YtmgpkjiahdacfaaDoorNormOpen
namespace Go.Proofs.YtmgpkjiahdacfaaDoor.LawNormStarters
open Go.ChangeShapes Go.WideShapes Go.ChangeAt Go.RowKit
open Utf hiding infoI32 rd_new own_form rdec_any below_drewN new_any write_any close_any
open Ucd hiding grow same Told
open Norm

/-- the starters -/
def st (l : List Int) : List Int := l.filter fun x => cls x == 0
theorem st_yes (l : List Int) {x : Int} (h : cls x = 0) : st (l ++ [x]) = st l ++ [x] := by simp [st, h]
theorem st_no (l : List Int) {x : Int} (h : cls x ≠ 0) : st (l ++ [x]) = st l := by simp [st, h]
theorem st_nf (D : List Int) : st (nf D) = st D := by
  have h : ∀ l, st l = Norm.pick 0 l := fun l => by
    unfold st Norm.pick
    refine List.filter_congr fun x _ => ?_
    cases (cls x == 0) <;> rfl
  rw [h, h, pick_nf]
theorem st_len (l : List Int) : (st l).length ≤ l.length := List.length_filter_le _ _

set_option maxHeartbeats 16000000 in
set_option maxRecDepth 100000 in
theorem walk (A : Option Addr) (l : List Int) (n c : Nat) (w : World) (hL : Laid w) (hr : Rd w w.heap.size A (nums l)) (hn : l.length = n) (hsm : n ≤ 1048576) :
    Calls Tryd.prog 10 #[.slice A n c] w (Law w) := by
  obtain ⟨i0, hi, hz0, hz1, hz2⟩ := info_parts Ucd.infoI32
  have HN := Lib.hid hn
  have HF := Lib.hid (fixed_any w hL)
  have HL := Lib.hid hL
  have HR := Lib.hid hr
  have HNL := Lib.hid (fun (u : World) (h1 : Laid u) (h2 : Rd u u.heap.size A (nums l)) => normal_any A l n c u h1 h2 hn (by omega))
  have hxl : (normal l).length = (fulls l).length := nf_len (fulls l)
  have hfl := fulls_len l
  have HSX := Lib.hid (show st (normal l) = st (fulls l) from st_nf (fulls l))
  generalize normal l = X at HNL hxl HSX
  have HXL := Lib.hid hxl
  have HFL := Lib.hid hfl
  clear hn hL hr hxl hfl
  go_enter Tryd.func10, Tryd.ntmps10
  go_wp2_with fail
  refine HF.out.mono ?_
  rintro e w1 ⟨rfl, hb1⟩
  have HB1 := Lib.hid hb1
  clear hb1 HF
  go_wp2_with fail
  go_loopw [3, 5, 17] (fun vo vc i wr => ∃ k q : Nat, k ≤ n ∧ i = .int .i64 k ∧ vc = .int .i64 q ∧ Hid (q = (fulls (l.take k)).length) ∧ Hid (wr.ownsRow w.heap.size 21 1 vo (st (fulls (l.take k))).length (nums (st (fulls (l.take k))))) ∧ Hid (Below w.heap.size w wr)) (fun _ _ i _ => n - (intOf i).toNat)
  case atStart => exact ⟨0, 0, Nat.zero_le _, rfl, rfl, Lib.hid (by simp [fulls]), Lib.hid (by simp only [List.take_zero, fulls, List.flatMap_nil]; exact World.ownsRow_nil _ _ _ _), HB1⟩
  case round =>
    clear HB1
    obtain ⟨k, q, hk, rfl, rfl, HQ, HO, HB⟩ := hrel
    by_cases hlt : k < n
    · obtain ⟨kq, hkq⟩ : ∃ q, q + k + 1 = n := ⟨n - k - 1, by omega⟩
      have HKN := Lib.hid hkq
      clear hkq
      have hkl : k < l.length := by rw [HN.out]; exact hlt
      obtain ⟨b, o, rfl, hbl⟩ := HR.out.form (by rw [nums_len]; omega)
      have hcell : wr.cell? ⟨b, o + k, none⟩ = some (.int .i32 l[k]) := (HR.out.below HB.out).num hkl
      have HTK := Lib.hid (show fulls (l.take (k + 1)) = fulls (l.take k) ++ fullF l[k] by rw [List.take_succ_eq_append_getElem hkl, fulls_append, fulls_cons]; simp [fulls])
      have h3 := full_three l[k]
      have h1 := full_some l[k]
      have HC := Lib.hid (rdec_new l[k] wr)
      have HDL := Lib.hid (show (fulls (l.take k)).length ≤ 3 * k by have := fulls_len (l.take k); rw [List.length_take] at this; omega)
      obtain ⟨D, hD⟩ : ∃ D, D = fulls (l.take k) := ⟨_, rfl⟩
      rw [← hD] at HQ HO HTK HDL
      generalize l[k] = r at hcell HTK h3 h1 HC
      generalize fullF r = xs at HTK h3 h1 HC
      clear hkl hD
      go_wp2_with fail
      refine HC.out.mono ?_
      rintro e w2 ⟨Ad, cd, rfl, hd1, hd2, hrd, hb2, hnew⟩
      obtain ⟨gd, od, rfl, hgd⟩ := hrd.form (by rw [nums_len]; exact h1)
      have HNG := Lib.hid (show ∀ g, u3.ownBlock = some g → gd ≠ g from fun g hv => by have := (HO.out.lt g hv).2; have := hnew gd od rfl; omega)
      have HO1 := Lib.hid (Ucd.own_below HO.out hb2)
      have HB2 := Lib.hid (HB.out.trans (hb2.mono HB.out.size))
      obtain ⟨m, hm⟩ : ∃ m, m = xs.length := ⟨_, rfl⟩
      have HM := Lib.hid hm
      have HCL := Lib.hid (show ∀ j (h : j < xs.length), w2.cell? ⟨gd, od + j, none⟩ = some (.int .i32 xs[j]) from fun j h => hrd.num h)
      have HGD := Lib.hid hgd
      rw [← hm] at h1 h3 hd1 ⊢
      have hq0 : q ≤ 3145728 := by have := HQ.out; have := HDL.out; have := HKN.out; omega
      clear hm hb2 hrd hnew HC HO HB hgd
      go_wp2_with fail
      go_loopw [3, 5, 24] (fun vo vc i wx => ∃ j : Nat, j ≤ m ∧ i = .int .i64 j ∧ vc = .int .i64 ((q + j : Nat) : Int) ∧ Hid (wx.ownsRow w.heap.size 21 1 vo (st (D ++ xs.take j)).length (nums (st (D ++ xs.take j)))) ∧ Hid (Below w.heap.size w wx) ∧ Hid (∀ g, vo.ownBlock = some g → gd ≠ g) ∧ Hid (∀ j (h : j < xs.length), wx.cell? ⟨gd, od + j, none⟩ = some (.int .i32 xs[j])) ∧ Hid (gd < wx.heap.size)) (fun _ _ i _ => m - (intOf i).toNat)
      case atStart => exact ⟨0, Nat.zero_le _, rfl, rfl, by simpa using HO1, HB2, HNG, HCL, HGD⟩
      case round =>
        clear HO1 HB2 HNG HCL HGD
        obtain ⟨j, hj, rfl, rfl, HO, HB, HNG, HCL, HGD⟩ := hrel
        by_cases hjt : j < m
        · have hjl : j < xs.length := by rw [← HM.out]; exact hjt
          have hcell : wr.cell? ⟨gd, od + j, none⟩ = some (.int .i32 xs[j]) := HCL.out j hjl
          have HTK2 := Lib.hid (show xs.take (j + 1) = xs.take j ++ [xs[j]] from List.take_succ_eq_append_getElem hjl)
          obtain ⟨x, hx⟩ : ∃ x, x = xs[j] := ⟨_, rfl⟩
          rw [← hx] at hcell HTK2
          have hfn : (st (D ++ xs.take j)).length ≤ 3145731 := by
            have := st_len (D ++ xs.take j); rw [List.length_append, List.length_take] at this
            have := HDL.out; have := HKN.out; omega
          have HYES := Lib.hid (fun (h : cls x = 0) => show st (D ++ xs.take (j + 1)) = st (D ++ xs.take j) ++ [x] by rw [HTK2.out, ← List.append_assoc, st_yes _ h])
          have HNO := Lib.hid (fun (h : cls x ≠ 0) => show st (D ++ xs.take (j + 1)) = st (D ++ xs.take j) by rw [HTK2.out, ← List.append_assoc, st_no _ h])
          generalize st (D ++ xs.take j) = F at HO hfn HYES HNO
          obtain ⟨f, hf⟩ : ∃ f, f = F.length := ⟨_, rfl⟩
          rw [← hf] at HO hfn
          have HFL2 := Lib.hid hf
          have hb3 : w.heap.size ≤ wr.heap.size := HB.out.size
          have hqj : (q : Int) + (j : Int) + 1 = ((q + (j + 1) : Nat) : Int) := by omega
          have hqj0 : ((q + j : Nat) : Int) = (q : Int) + (j : Int) := by omega
          rw [hqj0]
          clear hjl hx hf HTK2
          by_cases hc : cls x = 0
          · have hcb : (cls x == 0) = true := by simp [hc]
            have HST := Lib.hid (HYES.out hc)
            have HC0 := Lib.hid (rclass_any x)
            rw [hc] at HC0
            clear hc HYES HNO
            go_wp2_with (first | (go_at_call 22; refine (HC0.out _).mono ?_; rintro e w3 ⟨rfl, rfl⟩) | (at_builtin; refine wpList_append_rd _ rfl (.tmp 33) (.tmp 35) _ rfl w.heap.size 21 i0 _ 1 4 Tryd.underlying22 hi hz0 hz1 hz2 rfl (by decide) u3 f (nums F) rfl (HO.out.alloc _) _ (some ⟨wr.heap.size, 0, none⟩) 1 1 [.int .i32 x] rfl rfl (Ucd.rd_new _ _ [.int .i32 x] _ rfl) (nums_one [x]) (by unfold maxLen; omega) (by omega) (by simp; omega) ?_; intro v6 w6 hown6 hgr6 hat6))
            have HO6 := Lib.hid (show w6.ownsRow w.heap.size 21 1 v6 (st (D ++ xs.take (j + 1))).length (nums (st (D ++ xs.take (j + 1)))) by
              rw [HST.out, List.length_append, ← HFL2.out, nums_append]; exact hown6)
            have HB6 := Lib.hid ((HB.out.alloc hb3 (.cells [Value.int .i32 x].toArray 21)).grown hgr6 (by simp; omega) (fun y hy => (HO.out.lt y hy).1))
            have HNG6 := Lib.hid (show ∀ g, v6.ownBlock = some g → gd ≠ g from fun g hg' => by
              rcases hat6 with e | e
              · exact HNG.out g (e ▸ hg')
              · rw [e] at hg'; injection hg' with hg'; have := HGD.out; simp at hg'; omega)
            have HCL6 := Lib.hid (show ∀ i (h : i < xs.length), w6.cell? ⟨gd, od + i, none⟩ = some (.int .i32 xs[i]) from fun i h => by
              have hgd := HGD.out
              rw [hgr6.cell_far ⟨gd, od + i, none⟩ (by simp; omega) (fun e => HNG.out gd e.symm rfl), World.cell?_alloc_lt _ _ _ hgd]
              exact HCL.out i h)
            have HGD6 := Lib.hid (show gd < w6.heap.size by have := hgr6.size; have := HGD.out; simp at *; omega)
            clear hown6 hgr6 hat6 HO HB HNG HCL HGD
            go_roundw
            case rel => exact ⟨j + 1, by omega, by go_num, by first | rfl | (rw [hqj]) | go_num, HO6, HB6, HNG6, HCL6, HGD6⟩
            case measure => simp [intOf]; omega
          · have hcb : (cls x == 0) = false := by simpa using hc
            have HST := Lib.hid (HNO.out hc)
            have HC0 := Lib.hid (rclass_any x)
            rw [HFL2.out, ← HST.out] at HO
            clear hc HYES HNO HST
            go_wp2_with (first | (go_at_call 22; refine (HC0.out _).mono ?_; rintro e w3 ⟨rfl, rfl⟩))
            go_roundw
            case rel => exact ⟨j + 1, by omega, by go_num, by first | rfl | (rw [hqj]) | go_num, HO, HB, HNG, HCL, HGD⟩
            case measure => simp [intOf]; omega
        · have HXT := Lib.hid (show xs.take j = xs by rw [List.take_of_length_le (by rw [← HM.out]; omega)])
          rw [HXT.out, ← HTK.out] at HO
          have hjm : j = m := by omega
          have HQ2 := Lib.hid (show q + j = (fulls (l.take (k + 1))).length by rw [HTK.out, List.length_append, ← HQ.out, ← HM.out, hjm])
          have hkb : k + 1 ≤ 1048577 := by have := HKN.out; omega
          clear HNG HCL HXT HTK HGD hjm
          go_wp2_with fail
          go_roundw
          case rel => exact ⟨k + 1, q + j, by have := HKN.out; omega, by go_num, rfl, HQ2, HO, HB⟩
          case measure => have := HKN.out; simp [intOf]; omega
    · have HLT := Lib.hid (show l.take k = l by rw [List.take_of_length_le (by rw [HN.out]; omega)])
      rw [HLT.out] at HQ HO
      have HL2 := Lib.hid (HL.out.below HB.out HL.out.size)
      obtain ⟨Aw, cw, rfl, _, _, hrw⟩ := own_form HO.out
      have HRW := Lib.hid hrw
      obtain ⟨m, hm⟩ : ∃ m, m = X.length := ⟨_, rfl⟩
      have HM := Lib.hid hm
      have hqm : q = m := by rw [hm, HXL.out]; exact HQ.out
      subst hqm
      have hq0 : q ≤ 3145728 := by have := HQ.out; have := HFL.out; have := HN.out; omega
      have HSL := Lib.hid (show (st (fulls l)).length ≤ 1099511627776 by have := st_len (fulls l); have := HQ.out; omega)
      rw [← HSX.out] at HRW HSL ⊢
      clear HO hrw hm HLT HQ HSX HXL
      go_wp2_with fail
      refine (HNL.out wr HL2.out ((HR.out.below HB.out).more HB.out.size)).mono ?_
      rintro e w4 ⟨v4, rfl, ho4, hb4⟩
      obtain ⟨A4, c4, rfl, _, _, hr4⟩ := own_form ho4
      have HB4 := Lib.hid (HB.out.trans (hb4.mono HB.out.size)); have HR4 := Lib.hid hr4; have HRW4 := Lib.hid ((HRW.out.below hb4).more hb4.size)
      rw [← HM.out]
      clear ho4 hr4 hb4 HNL HRW
      go_wp2_with fail
      go_loopw [4, 43] (fun vo i wx => ∃ j : Nat, j ≤ q ∧ i = .int .i64 j ∧ Hid (wx.ownsRow w4.heap.size 21 1 vo (st (X.take j)).length (nums (st (X.take j)))) ∧ Hid (Below w4.heap.size w4 wx)) (fun _ i _ => q - (intOf i).toNat)
      case atStart => exact ⟨0, Nat.zero_le _, rfl, Lib.hid (World.ownsRow_nil _ _ _ _), Lib.hid (Below.refl _ _)⟩
      case round =>
        obtain ⟨j, hj, rfl, HO, HJ⟩ := hrel
        by_cases hjt : j < q
        · have hjl : j < X.length := by rw [← HM.out]; exact hjt
          obtain ⟨b, o, rfl, hbH⟩ := HR4.out.form (by rw [nums_len]; omega)
          have hcell : wr.cell? ⟨b, o + j, none⟩ = some (.int .i32 X[j]) := (HR4.out.below HJ.out).num hjl
          have HTK2 := Lib.hid (show X.take (j + 1) = X.take j ++ [X[j]] from List.take_succ_eq_append_getElem hjl)
          generalize X[j] = x at hcell HTK2
          have hfn : (st (X.take j)).length ≤ 3145731 := by have := st_len (X.take j); rw [List.length_take] at this; omega
          have HYES := Lib.hid (fun (h : cls x = 0) => show st (X.take (j + 1)) = st (X.take j) ++ [x] by rw [HTK2.out, st_yes _ h])
          have HNO := Lib.hid (fun (h : cls x ≠ 0) => show st (X.take (j + 1)) = st (X.take j) by rw [HTK2.out, st_no _ h])
          generalize st (X.take j) = F at HO hfn HYES HNO
          obtain ⟨f, hf⟩ : ∃ f, f = F.length := ⟨_, rfl⟩
          rw [← hf] at HO hfn
          have HFL2 := Lib.hid hf
          have hb3 : w4.heap.size ≤ wr.heap.size := HJ.out.size
          clear hjl hf HTK2
          by_cases hc : cls x = 0
          · have hcb : (cls x == 0) = true := by simp [hc]
            have HST := Lib.hid (HYES.out hc)
            have HC0 := Lib.hid (rclass_any x)
            rw [hc] at HC0
            clear hc HYES HNO
            go_wp2_with (first | (go_at_call 22; refine (HC0.out _).mono ?_; rintro e w3 ⟨rfl, rfl⟩) | (at_builtin; refine wpList_append_rd _ rfl (.tmp 50) (.tmp 52) _ rfl w4.heap.size 21 i0 _ 1 4 Tryd.underlying22 hi hz0 hz1 hz2 rfl (by decide) u4 f (nums F) rfl (HO.out.alloc _) _ (some ⟨wr.heap.size, 0, none⟩) 1 1 [.int .i32 x] rfl rfl (Ucd.rd_new _ _ [.int .i32 x] _ rfl) (nums_one [x]) (by unfold maxLen; omega) (by omega) (by simp; omega) ?_; intro v6 w6 hown6 hgr6 _))
            have HO6 := Lib.hid (show w6.ownsRow w4.heap.size 21 1 v6 (st (X.take (j + 1))).length (nums (st (X.take (j + 1)))) by
              rw [HST.out, List.length_append, ← HFL2.out, nums_append]; exact hown6)
            have HB6 := Lib.hid ((HJ.out.alloc hb3 (.cells [Value.int .i32 x].toArray 21)).grown hgr6 (by simp; omega) (fun y hy => (HO.out.lt y hy).1))
            clear hown6 hgr6 HO HJ
            go_roundw
            case rel => exact ⟨j + 1, by omega, by go_num, HO6, HB6⟩
            case measure => simp [intOf]; omega
          · have hcb : (cls x == 0) = false := by simpa using hc
            have HST := Lib.hid (HNO.out hc)
            have HC0 := Lib.hid (rclass_any x)
            rw [HFL2.out, ← HST.out] at HO
            clear hc HYES HNO HST
            go_wp2_with (first | (go_at_call 22; refine (HC0.out _).mono ?_; rintro e w3 ⟨rfl, rfl⟩))
            go_roundw
            case rel => exact ⟨j + 1, by omega, by go_num, HO, HJ⟩
            case measure => simp [intOf]; omega
        · have HXT := Lib.hid (show X.take j = X by rw [List.take_of_length_le (by rw [← HM.out]; omega)])
          rw [HXT.out] at HO
          obtain ⟨Ag, cg, rfl, _, _, hrg⟩ := own_form HO.out
          have HRG := Lib.hid hrg
          have HRW5 := Lib.hid ((HRW4.out.below HJ.out).more HJ.out.size)
          have HB5 := Lib.hid (HB4.out.trans (HJ.out.mono HB4.out.size))
          have hqq : ((q : Int) == (q : Int)) = true := by simp
          have HXX := Lib.hid (show Ucd.same (st X) (st X) = true from decide_eq_true rfl)
          clear HO hrg HXT
          go_wp2_with fail
          refine (same_any Ag Aw (st X) (st X) _ _ cg cw wr HRG.out HRW5.out rfl rfl HSL.out HSL.out).mono ?_
          rintro e w7 ⟨rfl, q7, hw7⟩
          have HB7 := Lib.hid (show Below w.heap.size w w7 by rw [hw7]; exact below_drewN HB5.out q7)
          rw [HXX.out]
          clear hw7
          go_wp2_with fail
          go_ret
          exact ⟨rfl, HB7.out⟩

theorem contract (H : Type) (enc : TypeId × Value → H) (W : World) (base : Nat) (args : Array Value) (ds gs : List (DataW H)) (before : List MemPlace)
    (hval : ∀ (j : Nat) t v, Tryd.f10.params[j]? = some t → args[j]? = some v → Value.okWide Tryd.prog W .any base t v)
    (hW : DataW.Whole enc Tryd.prog Tryd.f10.params.toList Rows.normStartersSpec.vars false W args.toList ds gs before) (hLL : laidMetH Tryd.prog Rows.normStartersUptoRow.laid W) (hk : Rows.uptoSmall H (ds ++ gs) = true) :
    Calls Tryd.prog 10 args W fun e W' => ∃ v, e = .returned v ∧ Rows.normStartersSpec.post enc Tryd.prog Tryd.f10 false true false false W args v W' := by
  have hL : Laid W := laid_of hLL
  have hW' := hW
  obtain ⟨p, q, hA0, hV, rfl, hfz, hnd⟩ := hW
  have hA : DataW.TrodAll enc Tryd.prog W 0 (fun _ => true) true Tryd.f10.params.toList args.toList ds p := hA0
  rw [Tryd.params10] at hA hval
  obtain ⟨v0, vs0, d0, ds0, p0, q0, hargs, rfl, rfl, h0, r0⟩ := trodAll_cons hA
  obtain ⟨rfl, rfl, rfl⟩ := trodAll_nil r0
  obtain rfl : args = #[v0] := by cases args; simp_all
  obtain ⟨rfl, rfl⟩ := trodVars_none hV
  obtain ⟨a0, len0, cap0, rfl⟩ := okWide_slice Tryd.underlying22 (hval 0 22 v0 rfl rfl)
  have k0 := h0
  have lt0 : ∀ x ∈ p0, x.block < W.heap.size := by obtain ⟨m, hm⟩ := k0; exact DataW.trod_lt m _ _ _ hm
  obtain ⟨l0, hl0, hc0, hm0, hw0, hr0, hb0, hd0⟩ := open_nums h0
  have hbd := bulk_bound hk
  simp only [List.append_nil, Rows.uptoBulkAll] at hbd
  clear hA0
  refine (walk a0 l0 len0 cap0 W hL hr0 hl0 (by omega)).mono fun e W' ⟨he, bel⟩ => ?_
  subst he
  exact ⟨_, rfl, _, _, _, [], _, [], hW', trodAll_mk1 (shut_bool Tryd.underlying4 _), (trodAll_cons_mk (Below.trod laidOut (by kernel_rfl) (of_decide_eq_true (by kernel_rfl)) k0 bel lt0) trodAll_mk0), rfl, bel.frame _, fun h => by cases h⟩

theorem laid_met (os : Os) : laidMet Tryd.prog Rows.normStartersUptoRow.laid ((laidWorld os).forCall (fun _ _ => 0) ⟨#[], #[.slice none 0 0], []⟩).memory :=
  laidMet_of_run' 8 (by kernel_rfl) (by kernel_rfl)
theorem reads (os : Os) {H : Type} (enc : TypeId × Value → H) : ∃ places, DataW.whole enc Tryd.prog ((laidWorld os).forCall (fun _ _ => 0) ⟨#[], #[.slice none 0 0], []⟩).memory Tryd.f10.params.toList Rows.normStartersSpec.vars false (#[.slice none 0 0] : Array Value).toList 8 = some ([.nil], [], places) :=
  ⟨[], by kernel_rfl⟩

set_option maxRecDepth 100000 in
theorem lifted (os : Os) (started : os.Started) (H : Type) (enc : TypeId × Value → H) (F : Stop.Interp) :
    ReturnsInHanded {} Tryd.checked os 10 .any ((Rows.OpenSpec.upto Rows.normStartersSpec).preRow enc Tryd.prog Tryd.f10 Rows.normStartersUptoRow.domain false Rows.normStartersUptoRow.laid) (((Rows.OpenSpec.upto Rows.normStartersSpec).at F).post enc Tryd.prog Tryd.f10 false true false false) := by
  obtain ⟨places, hx⟩ := reads os enc
  refine returnsInHanded_of_row (C := Tryd.checked) (s := Rows.OpenSpec.upto Rows.normStartersSpec) own started (by kernel_rfl) Tryd.func10
    (witness_row_at (enc := enc) (C := Tryd.checked) false (laidWorld os) #[.slice none 0 0] rfl (by kernel_rfl) (by kernel_rfl) (by kernel_rfl)
      (OpenSpec.preRow_of_cond 8 hx (by kernel_rfl) (fun k hk => by cases hk; kernel_rfl) (by kernel_rfl) (laid_met os))) ?_
  intro W base args ds gs before hval hW _ hcond _ hL _ _
  exact contract H enc W base args ds gs before hval hW hL (hcond _ rfl)

theorem said : Rows.NormStartersUptoSaid :=
  OpenClaim.holds_of_cond 10 Tryd.f10 rfl rfl rfl rfl rfl rfl rfl ⟨rfl, rfl, rfl, rfl, rfl⟩ rfl rfl rfl rfl rfl (by kernel_rfl) Tryd.func10 (by kernel_rfl)
    (of_decide_eq_true (by kernel_rfl)) (by unfold Func.isWrapper; first | (rw [if_pos (by decide +kernel)]; kernel_rfl) | (rw [if_neg (by decide +kernel)]; exact ⟨rfl, rfl⟩))
    (fun os started H enc _ F => by rw [OpenClaim.pre_eq_preRow]; exact lifted os started H enc F)

/-- no parameter wants a stand-in; the program's own looks are off -/
theorem plain (f : FuncId) (fn : Func) (hf : Tryd.pinned.checked.prog.funcNamed Rows.normStartersUptoRow.func = some f) (hfn : Tryd.pinned.checked.prog.funcs[f]? = some fn) :
    false = Tryd.pinned.checked.prog.looks [] ∧ ∀ (j : Nat) t, fn.params[j]? = some t → Tryd.pinned.checked.prog.wantsStandIn t = false := by
  obtain rfl : f = 10 := Option.some.inj ((show Tryd.prog.funcNamed Rows.normStartersUptoRow.func = some 10 by kernel_rfl).symm.trans hf) |>.symm
  obtain rfl : fn = Tryd.f10 := (Option.some.inj (Tryd.func10.symm.trans hfn)).symm
  refine ⟨by kernel_rfl, fun j t ht => ?_⟩
  rw [Tryd.params10] at ht
  have hm := Array.mem_of_getElem? ht
  simp only [List.mem_toArray, List.mem_cons, List.not_mem_nil, or_false] at hm
  rcases hm with rfl
  all_goals first | exact (show Tryd.prog.wantsStandIn 22 = false by kernel_rfl)

/-- THE STATEMENT -/
theorem proved : Rows.NormStartersUptoCardSaid :=
  Claim7.holds_tied_plain_at .later [] _ _ _ _ said (fun _ h => by cases h) (by kernel_rfl) (fun _ h => by cases h) normStartersUpto_row_tie rfl ⟨rfl, rfl⟩ (by kernel_rfl) rfl plain (by kernel_rfl)
end Go.Proofs.YtmgpkjiahdacfaaDoor.LawNormStarters
