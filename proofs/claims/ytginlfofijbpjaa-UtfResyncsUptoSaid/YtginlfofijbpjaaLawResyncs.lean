/-
  Whatever bytes stand ahead (the arguments of bulk at most 1048576): a letter of one byte behind them is read as itself, and what is ahead as it is alone. Conditions: the given bound on the arguments' bulk.
-/
import Derived.Test.YtginlfofijbpjaaUtfOpen
import Derived.Test.YtginlfofijbpjaaUtfMath2
namespace Go.Proofs.Ytginlfofijbpjaa.LawUtfResyncs
open Go.ChangeShapes Go.WideShapes Go.ChangeAt Go.RowKit Utf

set_option maxHeartbeats 4000000 in
theorem walk (A : Option Addr) (l : List UInt8) (m c : Nat) (z : Int) (w : World) (hr : Rd w w.heap.size A (bys l)) (hm : l.length = m) (hc : m ≤ c) (hcm : c ≤ 9223372036854775807) (hb : m ≤ 1048576) (hz : 0 ≤ z ∧ z ≤ 255) :
    Calls Try.prog 9 #[.slice A m c, .int .u8 z] w (Law w) := by
  obtain ⟨i0, hi, hz0, hz1, hz2⟩ := info_parts infoU8
  obtain ⟨x, rfl⟩ : ∃ x : Nat, z = x := ⟨z.toNat, by omega⟩
  have hx : x ≤ 255 := by omega
  clear hz
  obtain ⟨C, Y, hC, hC2, hbits⟩ : ∃ (C : UInt8) (Y : Nat), C.toNat < 128 ∧ C.toNat = Y ∧ bits BinOp.and IntKind.u8 (x : Int) 127 = (Y : Int) := by
    refine ⟨UInt8.ofNat (x % 128), x % 128, by rw [ofNat_lt (by omega)]; omega, ofNat_lt (by omega), ?_⟩
    have := u8_and_nat x 127 (by omega) (by omega)
    rw [nat_mask7] at this
    exact this
  have hY : Y < 128 := by omega
  have hda := dec_ascii C hC l
  have hll := dec_len_le false l 0
  rw [hm] at hda hll
  obtain ⟨P, hP⟩ : ∃ P, P = dec false 0 l := ⟨_, rfl⟩
  obtain ⟨Q, hQ⟩ : ∃ Q, Q = dec false 0 (l ++ [C]) := ⟨_, rfl⟩
  rw [← hP] at hda hll
  rw [← hQ] at hda
  obtain ⟨np, hnp⟩ : ∃ np, np = P.length := ⟨_, rfl⟩
  have hql : Q.length = np + 1 := by rw [hda, List.length_append, hnp]; rfl
  have hqt : Q.take np = P := by rw [hda, hnp, List.take_left]
  have hqn : ∀ h : np < Q.length, Q[np] = ⟨C.toNat, m, 1⟩ := by
    subst hda hnp
    intro h
    simp
  rw [← hnp] at hll
  have HP := Lib.hid hP; have HQ := Lib.hid hQ; have HQL := Lib.hid hql; have HQT := Lib.hid hqt; have HQN := Lib.hid hqn; have HC2 := Lib.hid hC2; have HNP := Lib.hid hnp; have HM := Lib.hid hm
  clear hP hQ hql hqt hqn hC hC2 hnp hda hm
  go_enter Try.func9, Try.ntmps9
  go_wp2_with fail
  refine (fixed_any _).mono ?_
  rintro e w1 hf
  obtain ⟨rfl, hb1⟩ := hf.out
  clear hf
  go_wp2_with fail
  refine (decode_any A l m c w1 ((hr.below hb1).more hb1.size) HM.out hc hcm (by omega)).mono ?_
  rintro e w2 ⟨v2, rfl, hown2, hb2⟩
  rw [← HP.out, ← HNP.out] at hown2
  have hb2' : Below w.heap.size w w2 := hb1.trans (hb2.mono hb1.size)
  obtain ⟨A2, c2, rfl, hc2, hcm2, hr2⟩ := own_form hown2
  have hrb := hr.below hb2'
  have hs2 := hb2'.size
  have ho0 : (w2.alloc (.cells #[] 5)).ownsRow w2.heap.size 5 1 (.slice (some ⟨w2.heap.size, 0, none⟩) 0 0) 0 [] := World.ownsRow_lit w2 #[] 0 (Nat.le_refl _) (by unfold maxLen; omega) rfl
  have HO0 := Lib.hid ho0
  have HL1 : Hid ((bys l).length = m * 1) := Lib.hid (by rw [bys_len, HM.out, Nat.mul_one])
  clear hown2 hb2 hb1 ho0 hr
  go_wp2_with (first
    | (at_builtin; refine wpList_append_rd _ rfl (.tmp 14) (.tmp 15) _ rfl w2.heap.size 5 i0 _ 1 1 Try.underlying22 hi hz0 hz1 hz2 rfl (by decide) _ 0 [] rfl HO0.out w.heap.size A m c (bys l) rfl HL1.out (hrb.alloc hs2 _) (bys_one _) (by unfold maxLen; omega) (by omega) (by simp) ?_; intro v3 w3 hown3 hgr3 hat3; have hb3 : Below w2.heap.size w2 w3 := ((Below.refl _ _).alloc (Nat.le_refl _) _).grown hgr3 (by simp) (fun g hg => by cases hg; exact Nat.le_refl _); have hs3 := hb3.size)
    | (at_builtin; refine wpList_append_rd _ rfl (.tmp 16) (.tmp 18) _ rfl w2.heap.size 5 i0 _ 1 1 Try.underlying22 hi hz0 hz1 hz2 rfl (by decide) _ (0 + m) ([] ++ bys l) rfl (hown3.alloc _) _ (some ⟨w3.heap.size, 0, none⟩) 1 1 [.int .u8 (Y : Int)] rfl rfl (rd_new _ _ [.int .u8 (Y : Int)] _ rfl) (oneU8 (by simp)) (by unfold maxLen; omega) (by omega) (by simp; omega) ?_; intro v4 w4 hown4 hgr4 hat4; have hb4 : Below w2.heap.size w2 w4 := (hb3.alloc hs3 _).grown hgr4 (by simp; omega) (fun g hg => (hown3.lt g hg).1); obtain ⟨A4, c4, rfl, hc4, hcm4, hr4⟩ := own_form hown4))
  have hr4' : Rd w4 w4.heap.size A4 (bys (l ++ [C])) := by
    rw [bys_append]
    have e : bys [C] = [.int .u8 (Y : Int)] := by show [Value.int .u8 (C.toNat : Int)] = _; rw [HC2.out]
    rw [e]; exact hr4
  have hl4 : (l ++ [C]).length = 0 + m + 1 := by rw [List.length_append, HM.out]; simp
  have hdc := fun m' c' => decode_any A4 (l ++ [C]) m' c' w4 hr4'
  rw [← HQ.out] at hdc
  have HDC := Lib.hid hdc
  have HL4 := Lib.hid hl4
  have hbw4 : Below w.heap.size w w4 := hb2'.trans (hb4.mono hs2)
  have hr24 := (hr2.below hb4).more hb4.size
  clear hr4 hr4' hl4 hdc hown3 hown4 hgr3 hgr4 hat3 hat4 hb3 hrb
  refine (HDC.out _ _ (HL4.out.trans (by omega)) (by omega) (by omega) (by omega)).mono ?_
  rintro e w5 ⟨v5, rfl, hown5, hb5⟩
  rw [HQL.out] at hown5
  obtain ⟨A5, c5, rfl, hc5, hcm5, hr5⟩ := own_form hown5
  obtain ⟨b5, o5, rfl, hb5l⟩ := hr5.form (by rw [pts_len, HQL.out]; omega)
  have hbw5 : Below w.heap.size w w5 := hbw4.trans (hb5.mono hbw4.size)
  have hr25 := (hr24.below hb5).more hb5.size
  have hr5t : Rd w5 w5.heap.size (some ⟨b5, o5, none⟩) (pts P) := by
    have h := hr5.take_ (np * 3)
    rwa [pts_take, HQT.out] at h
  have hpt := hr5.pt (k := np) (by rw [HQL.out]; omega)
  rw [HQN.out] at hpt
  have HPT := Lib.hid hpt
  have hsm := same_any (some ⟨b5, o5, none⟩) A2 P P np np c5 c2 w5 hr5t hr25 HNP.out.symm HNP.out.symm (by omega) (by omega)
  have hss : same P P = true := by simp [same]
  rw [hss] at hsm
  have HSM := Lib.hid hsm
  clear hown5 hb5 hr5 hr5t hr25 hpt hsm hss hr24
  go_wp2_with fail
  refine HSM.out.mono ?_
  rintro e w6 ⟨rfl, kk, hw6⟩
  obtain ⟨x1, x2, x3⟩ := HPT.out
  have y1 : w6.cell? ⟨b5, o5 + np * 3, none⟩ = some (.int .i32 (Y : Int)) := by rw [hw6]; exact x1.trans (by rw [HC2.out])
  have y2 : w6.cell? ⟨b5, o5 + np * 3 + 1, none⟩ = some (.int .i64 (m : Int)) := by rw [hw6]; exact x2
  have y3 : w6.cell? ⟨b5, o5 + np * 3 + 2, none⟩ = some (.int .i64 1) := by rw [hw6]; exact x3
  have hbw6 : Below w.heap.size w w6 := by rw [hw6]; exact below_drewN hbw5 _
  clear x1 x2 x3 hw6
  go_wp2
  go_ret
  exact ⟨rfl, hbw6.alloc hbw6.size _⟩

theorem contract (H : Type) (enc : TypeId × Value → H) (W : World) (base : Nat) (args : Array Value) (ds gs : List (DataW H)) (before : List MemPlace)
    (hval : ∀ (j : Nat) t v, Try.f9.params[j]? = some t → args[j]? = some v → Value.okWide Try.prog W .any base t v)
    (hW : DataW.Whole enc Try.prog Try.f9.params.toList Rows.utfResyncsSpec.vars false W args.toList ds gs before) (hk : Rows.uptoSmall H (ds ++ gs) = true) :
    Calls Try.prog 9 args W fun e W' => ∃ v, e = .returned v ∧ Rows.utfResyncsSpec.post enc Try.prog Try.f9 false true false false W args v W' := by
  have hW' := hW
  obtain ⟨p, q, hA0, hV, rfl, hfz, hnd⟩ := hW
  have hA : DataW.TrodAll enc Try.prog W 0 (fun _ => true) true Try.f9.params.toList args.toList ds p := hA0
  rw [Try.params9] at hA hval
  obtain ⟨v0, vs0, d0, ds0, p0, q0, hargs, rfl, rfl, h0, r0⟩ := trodAll_cons hA
  obtain ⟨v1, vs1, d1, ds1, p1, q1, rfl, rfl, rfl, h1, r1⟩ := trodAll_cons r0
  obtain ⟨rfl, rfl, rfl⟩ := trodAll_nil r1
  obtain rfl : args = #[v0, v1] := by cases args; simp_all
  obtain ⟨rfl, rfl⟩ := trodVars_none hV
  obtain ⟨a0, len0, cap0, rfl⟩ := okWide_slice Try.underlying22 (hval 0 22 v0 rfl rfl)
  have k0 := h0
  have lt0 : ∀ x ∈ p0, x.block < W.heap.size := by obtain ⟨m, hm⟩ := k0; exact DataW.trod_lt m _ _ _ hm
  obtain ⟨l0, hl0, hc0, hm0, hr0, hb0⟩ := open_bytes h0
  obtain ⟨z1, rfl, rfl, rfl, w1⟩ := open_int Try.underlying5 (hval 1 5 v1 rfl rfl) h1
  have hbd := bulk_bound hk
  simp only [List.append_nil, Rows.uptoBulkAll] at hbd
  clear hA0
  refine (walk a0 l0 len0 cap0 z1 W hr0 hl0 hc0 hm0 (by omega) (u8_bounds w1)).mono fun e W' ⟨he, bel⟩ => ?_
  subst he
  exact ⟨_, rfl, _, _, _, [], _, [], hW', trodAll_mk1 (shut_bool Try.underlying4 _), (trodAll_cons_mk (Below.trod laidOut (by kernel_rfl) (of_decide_eq_true (by kernel_rfl)) k0 bel lt0) (trodAll_cons_mk (shut_int Try.underlying5 w1) trodAll_mk0)), rfl, bel.frame _, fun h => by cases h⟩

set_option maxRecDepth 100000 in
theorem lifted (os : Os) (started : os.Started) (H : Type) (enc : TypeId × Value → H) (F : Stop.Interp) :
    ReturnsInHanded {} Try.checked os 9 .any ((Rows.OpenSpec.upto Rows.utfResyncsSpec).pre6 enc Try.prog Try.f9 Rows.utfResyncsUptoRow.domain false) (((Rows.OpenSpec.upto Rows.utfResyncsSpec).at F).post enc Try.prog Try.f9 false true false false) := by
  refine returnsInHanded_of_cond (C := Try.checked) (s := Rows.OpenSpec.upto Rows.utfResyncsSpec) (k := Rows.uptoSmall) rfl own started (by kernel_rfl) Try.func9
    (OpenSpec.witness (enc := enc) (C := Try.checked) (s := Rows.OpenSpec.upto Rows.utfResyncsSpec) (k := Rows.uptoSmall) rfl false ⟨#[], #[.slice none 0 0, .int .u8 0], []⟩ 8 (by kernel_rfl) (by kernel_rfl) (by kernel_rfl)
      (x := ([.nil, .lit (.int .u8 0)], [], [])) (by kernel_rfl) rfl (by kernel_rfl)) ?_
  intro W base args ds gs before hval hW _ hk _
  exact contract H enc W base args ds gs before hval hW hk

/-- THE STATEMENT -/
theorem proved : Rows.UtfResyncsUptoSaid :=
  OpenClaim.holds_of_cond 9 Try.f9 rfl rfl rfl rfl rfl rfl rfl ⟨rfl, rfl, rfl, rfl, rfl⟩ rfl rfl rfl rfl rfl (by kernel_rfl) Try.func9 (by kernel_rfl)
    (of_decide_eq_true (by kernel_rfl)) (by unfold Func.isWrapper; first | (rw [if_pos (by decide +kernel)]; kernel_rfl) | (rw [if_neg (by decide +kernel)]; exact ⟨rfl, rfl⟩))
    (fun os started H enc _ F => lifted os started H enc F)
end Go.Proofs.Ytginlfofijbpjaa.LawUtfResyncs
