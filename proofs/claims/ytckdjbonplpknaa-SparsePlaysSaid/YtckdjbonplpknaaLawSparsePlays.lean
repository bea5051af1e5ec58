/-
  Whatever size and whatever calls there are: Play answers each of them as a plain list of numbers does, and what is there at the end is that list. Conditions: none.
-/
import Derived.Test.YtckdjbonplpknaaSparseOpen
namespace Go.Proofs.Ytckdjbonplpknaa.LawSparsePlays
open Go.ChangeShapes Go.WideShapes Go.ChangeAt Go.RowKit Mem Sparse
set_option maxRecDepth 100000


/-- in the middle of the document's own script: the answers so far, and its list -/
structure Two (B : Nat) (w wr : World) (N : Nat) (a v : Value) (d : List (Int × Int)) : Prop where
  told : wr.ownsRow B 3 1 a d.length (ks .i64 (outs N d []))
  list : wr.ownsRow B 3 1 v (fin N d []).length (ks .i64 (fin N d []))
  apart : ∀ i, a.ownBlock = some i → ¬ v.ownBlock = some i
  below : Below B w wr
theorem Two.next {B : Nat} {w wr w' : World} {N : Nat} {a v : Value} {d : List (Int × Int)} (h : Two B w wr N a v d) (hb : Below wr.heap.size wr w') (hB : B ≤ wr.heap.size) : Two B w w' N a v d :=
  ⟨own_below h.told hb, own_below h.list hb, h.apart, h.below.trans (hb.mono hB)⟩
theorem Two.did {B : Nat} {w wr w1 : World} {N : Nat} {a v u : Value} {d : List (Int × Int)} {o : Int × Int} (h : Two B w wr N a v d) (h1 : w1.ownsRow B 3 1 u (Sparse.step N (fin N d []) o.1 o.2).2.length (ks .i64 (Sparse.step N (fin N d []) o.1 o.2).2)) (hc : Chg wr w1 (fun i => v.ownBlock = some i)) (hg : Grew wr v u) (hB : B ≤ wr.heap.size) :
    w1.ownsRow B 3 1 a d.length (ks .i64 (outs N d [])) ∧ w1.ownsRow B 3 1 u (fin N (d ++ [o]) []).length (ks .i64 (fin N (d ++ [o]) [])) ∧ (∀ i, a.ownBlock = some i → ¬ u.ownBlock = some i) ∧ Below B w w1 :=
  ⟨own_keep h.told hc h.apart, by rw [fin_snoc]; exact h1, fun i hi hu => by
    rcases hg i hu with h2 | h2
    · exact h.apart i hi h2
    · have := (h.told.lt i hi).2
      omega, h.below.trans (hc.below hB fun i hi e => by have := (h.list.lt i e).1; omega)⟩
theorem Two.more {B : Nat} {w w1 w2 w3 : World} {N n : Nat} {a a' u : Value} {d : List (Int × Int)} {o : Int × Int} {z : Int} (h1 : w1.ownsRow B 3 1 a d.length (ks .i64 (outs N d [])))
    (h2 : w1.ownsRow B 3 1 u (fin N (d ++ [o]) []).length (ks .i64 (fin N (d ++ [o]) []))) (h3 : ∀ i, a.ownBlock = some i → ¬ u.ownBlock = some i) (h4 : Below B w w1) (hb : Below w1.heap.size w1 w2) (hB : B ≤ w1.heap.size)
    (hz : (Sparse.step N (fin N d []) o.1 o.2).1 = z) (hn : n = d.length) (ho : w3.ownsRow B 3 1 a' (n + 1) (ks .i64 (outs N d []) ++ [.int .i64 z])) (hg : w2.grownBy w3 a.ownBlock) (ha : a'.ownBlock = a.ownBlock ∨ a'.ownBlock = some w2.heap.size) : Two B w w3 N a' u (d ++ [o]) := by
  subst hn
  have hc : Chg w1 w3 (fun i => a.ownBlock = some i) := (Chg.of_below hb (Nat.le_refl _)).grown hg fun i _ e => e
  refine ⟨?_, own_keep h2 hc fun i hi e => h3 i e hi, fun i hi hu => ?_, h4.trans (hc.below hB fun i hi e => ?_)⟩
  · rw [List.length_append, outs_snoc, ks_append, hz]; exact ho
  · rcases ha with ha | ha
    · rw [ha] at hi; exact h3 i hi hu
    · rw [ha] at hi
      injection hi with hi
      have := (h2.lt i hu).2
      have := hb.size
      omega
  · have := (h1.lt i e).1
    omega
set_option maxHeartbeats 8000000 in
theorem walk (size : Int) (A : Option Addr) (ops : List (Int × Int)) (m c : Nat) (w : World) (h1 : -9223372036854775808 ≤ size) (h2 : size ≤ 9223372036854775807) (hr : Rd w w.heap.size A (opv ops)) (hm : ops.length = m)
    (hx : ∀ o ∈ ops, -9223372036854775808 ≤ o.2 ∧ o.2 ≤ 9223372036854775807) (hsm : m ≤ 8796093022207) :
    Calls Try.prog 3 #[.int .i64 size, .slice A m c] w (Law w) := by
  obtain ⟨i0, hi, hz0, hz1, hz2⟩ := info_parts infoInt
  have HF := Lib.hid (fixed_any w)
  have HM := Lib.hid hm; have HX := Lib.hid hx; have HR := Lib.hid hr
  clear hm hx hr
  go_enter Try.func3, Try.ntmps3
  go_wp2_with fail
  refine HF.out.mono ?_
  rintro e w1 ⟨rfl, hb1⟩
  have HB1 := Lib.hid hb1
  have HP := Lib.hid (run_any size A ops m c w1 h1 h2 ((HR.out.below hb1).more hb1.size) HM.out HX.out (by omega))
  clear hb1 HF
  go_wp2_with fail
  refine HP.out.mono ?_
  rintro e w2 ⟨v, u, rfl, k1, k2, k3⟩
  obtain ⟨N, hN⟩ : ∃ N, N = room size := ⟨_, rfl⟩
  rw [← hN] at k1 k2
  obtain ⟨A1, ca1, rfl, _, _, hr1⟩ := own_form k1
  obtain ⟨n2, hn2⟩ : ∃ n, n = (fin N ops []).length := ⟨_, rfl⟩
  rw [← hn2] at k2
  obtain ⟨A2, ca2, rfl, _, _, hr2⟩ := own_form k2
  rw [HM.out]
  have HB2 := Lib.hid (HB1.out.trans (k3.mono HB1.out.size))
  have HR1 := Lib.hid hr1; have HR2 := Lib.hid hr2; have HN := Lib.hid hN; have HN2 := Lib.hid hn2
  obtain ⟨B, hB⟩ : ∃ B, B = w2.heap.size := ⟨_, rfl⟩
  have HB := Lib.hid hB
  have HTW := Lib.hid (show Two B w2 w2 N (.slice none 0 0) (.slice none 0 0) [] from ⟨World.ownsRow_nil _ _ _ _, World.ownsRow_nil _ _ _ _, fun i hi => by simp [Value.ownBlock] at hi, Below.refl _ _⟩)
  have hn2m : n2 ≤ m := by rw [hn2, ← HM.out]; have := fin_len N ops []; simpa using this
  clear k1 k2 k3 hr1 hr2 hN hn2 hB HP
  go_wp2_with fail
  go_loopw [7, 8, 22] (fun av mv i wr => ∃ (k : Nat), k ≤ m ∧ i = .int .i64 k ∧ Hid (Two B w2 wr N av mv (ops.take k))) (fun _ _ i _ => m - (intOf i).toNat)
  case atStart => exact ⟨0, Nat.zero_le _, rfl, HTW⟩
  case round =>
    obtain ⟨k, hk, rfl, HT⟩ := hrel
    clear HTW
    have HW := Lib.hid (show B ≤ wr.heap.size by have := HT.out.below.size; rw [HB.out]; exact this)
    by_cases hlt : k < m
    · have hkl : k < ops.length := by rw [HM.out]; exact hlt
      obtain ⟨b, o, rfl, _⟩ := rd_form_op HR.out (by omega)
      have hwr : Below w.heap.size w wr := HB2.out.trans (HT.out.below.mono (by rw [HB.out]; exact HB2.out.size))
      obtain ⟨c1, c2⟩ := rd_op (HR.out.below hwr) hkl
      have hts : ops.take (k + 1) = ops.take k ++ [ops[k]] := List.take_succ_eq_append_getElem hkl
      obtain ⟨q, hq⟩ : ∃ q, q = ops[k] := ⟨_, rfl⟩
      rw [← hq] at c1 c2 hts
      obtain ⟨d, hd⟩ : ∃ d, d = ops.take k := ⟨_, rfl⟩
      have hdl : k = d.length := by rw [hd, List.length_take]; omega
      rw [← hd] at hts HT
      obtain ⟨kd, x⟩ := q
      have HTS := Lib.hid hts
      have HDL := Lib.hid hdl
      have hlist := HT.out.list
      have hfl := fin_len N d []
      obtain ⟨n3, hn3⟩ : ∃ n, n = (fin N d []).length := ⟨_, rfl⟩
      rw [← hn3] at hlist hfl
      obtain ⟨A3, ca3, rfl, _, _, _⟩ := own_form hlist
      have HS := Lib.hid (rstep_any size kd x B n3 ca3 A3 (fin N d []) (wr.alloc (.cells #[.int .i64 kd, .int .i64 x] 28)) (own_below hlist ((Below.refl _ _).alloc (Nat.le_refl _) _)) hn3.symm (by simp at hfl; omega) (by have := HW.out; simp; omega))
      rw [← HN.out] at HS
      clear hts hdl hd hq hkl hlist hfl hwr hn3
      go_wp2_with (first
        | (go_at_call 9; refine HS.out.mono ?_; rintro e3 w3 ⟨u3, rfl, k1, k2, k3⟩
           obtain ⟨j1, j2, j3, j4⟩ := (HT.out.next ((Below.refl _ _).alloc (Nat.le_refl _) _) HW.out).did (o := (kd, x)) k1 k2 k3 (by have := HW.out; simp; omega)
           have J1 := Lib.hid j1; have J2 := Lib.hid j2; have J3 := Lib.hid j3; have J4 := Lib.hid j4
           have J5 := Lib.hid (show B ≤ w3.heap.size by have := k2.size; simp at this; have := HW.out; omega)
           obtain ⟨z, hz⟩ : ∃ z, z = (Sparse.step N (fin N d []) kd x).1 := ⟨_, rfl⟩
           rw [← hz]
           have HZ := Lib.hid hz
           clear k1 k2 k3 j1 j2 j3 j4 hz)
        | (at_builtin; refine wpList_append_rd _ rfl (.tmp 36) (.tmp 38) _ rfl B 3 i0 _ 1 8 Try.underlying24 hi hz0 hz1 hz2 rfl (by decide) u7 k (ks .i64 (outs N d [])) rfl (own_below (by rw [HDL.out]; exact J1.out) ((Below.refl _ _).alloc (Nat.le_refl _) _)) _ (some ⟨w3.heap.size, 0, none⟩) 1 1 [.int .i64 z] rfl rfl (rd_new _ _ [.int .i64 z] _ rfl) (ks_one .i64 [z]) (by unfold maxLen; omega) (by omega) (by have := J5.out; simp; omega) ?_
           intro v6 w6 hown6 hgr6 hat6
           have HM6 := Lib.hid (Two.more J1.out J2.out J3.out J4.out ((Below.refl _ _).alloc (Nat.le_refl _) _) J5.out HZ.out.symm HDL.out hown6 hgr6 hat6)
           clear hown6 hgr6 hat6))
      go_roundw
      case rel => exact ⟨k + 1, by omega, by go_num, by rw [HTS.out]; exact HM6⟩
      case measure => simp [intOf]; omega
    · have hke : k = m := by omega
      subst hke
      have htk : ops.take k = ops := List.take_of_length_le (by rw [HM.out]; exact Nat.le_refl _)
      rw [htk] at HT
      clear htk hk
      have t1 := HT.out.told
      have t2 := HT.out.list
      rw [HM.out] at t1
      rw [← HN2.out] at t2
      obtain ⟨A3, ca3, rfl, _, _, _⟩ := own_form t1
      obtain ⟨A4, ca4, rfl, _, _, _⟩ := own_form t2
      have hb3 : Below w2.heap.size w2 wr := by have := HT.out.below; rw [HB.out] at this; exact this
      have HB4 := Lib.hid (HB2.out.trans (hb3.mono HB2.out.size))
      have HQ1 := Lib.hid (same_yes A1 A3 (outs N ops []) (outs N ops []) k k ca1 ca3 wr ((HR1.out.below hb3).more hb3.size) (Rd.of_own t1) (by rw [outs_len]; exact HM.out) (by rw [outs_len]; exact HM.out) (by omega) rfl)
      have HQ2 := Lib.hid (fun (w5 : World) (hb5 : Below wr.heap.size wr w5) => same_yes A2 A4 (fin N ops []) (fin N ops []) n2 n2 ca2 ca4 w5 ((((HR2.out.below hb3).more hb3.size).below hb5).more hb5.size) (((Rd.of_own t2).below hb5).more hb5.size) HN2.out.symm HN2.out.symm (by omega) rfl)
      clear t1 t2 hb3
      go_wp2_with (first
        | (go_at_call 10; refine HQ1.out.mono ?_; rintro e5 w5 ⟨rfl, h5⟩; have HB5 := Lib.hid h5; have HQ3 := Lib.hid (HQ2.out w5 h5); clear h5 HQ1 HQ2)
        | (go_at_call 10; refine HQ3.out.mono ?_; rintro e6 w6 ⟨rfl, h6⟩; have HB6 := Lib.hid h6; clear h6))
      go_ret
      exact ⟨rfl, HB4.out.trans ((HB5.out.trans (HB6.out.mono HB5.out.size)).mono HB4.out.size)⟩

theorem contract (H : Type) (enc : TypeId × Value → H) (W : World) (base : Nat) (args : Array Value) (ds gs : List (DataW H)) (before : List MemPlace)
    (hval : ∀ (j : Nat) t v, Try.f3.params[j]? = some t → args[j]? = some v → Value.okWide Try.prog W .any base t v)
    (hW : DataW.Whole enc Try.prog Try.f3.params.toList Rows.sparsePlaysSpec.vars false W args.toList ds gs before) (hsz0 : (DataW.weightsEach Try.prog (Try.f3.params.toList ++ Rows.sparsePlaysSpec.plain.varTypes Try.prog) (ds ++ gs)).all (· ≤ reachBytes) = true) :
    Calls Try.prog 3 args W fun e W' => ∃ v, e = .returned v ∧ Rows.sparsePlaysSpec.post enc Try.prog Try.f3 false true false false W args v W' := by
  have hW' := hW
  obtain ⟨p, q, hA0, hV, rfl, hfz, hnd⟩ := hW
  have hA : DataW.TrodAll enc Try.prog W 0 (fun _ => true) true Try.f3.params.toList args.toList ds p := hA0
  have hsz := hsz0
  rw [Try.params3] at hA hval hsz
  obtain ⟨v0, vs0, d0, ds0, p0, q0, hargs, rfl, rfl, h0, r0⟩ := trodAll_cons hA
  obtain ⟨v1, vs1, d1, ds1, p1, q1, rfl, rfl, rfl, h1, r1⟩ := trodAll_cons r0
  obtain ⟨rfl, rfl, rfl⟩ := trodAll_nil r1
  obtain rfl : args = #[v0, v1] := by cases args; simp_all
  obtain ⟨rfl, rfl⟩ := trodVars_none hV
  obtain ⟨z0, rfl, rfl, rfl, w00⟩ := open_int Try.underlying3 (hval 0 3 v0 rfl rfl) h0
  have w0 := i64_bounds w00
  obtain ⟨a1, len1, cap1, rfl⟩ := okWide_slice Try.underlying22 (hval 1 22 v1 rfl rfl)
  have k1 := h1
  have lt1 : ∀ x ∈ p1, x.block < W.heap.size := by obtain ⟨m, hm⟩ := k1; exact DataW.trod_lt m _ _ _ hm
  obtain ⟨l1, hl1, hc1, hm1, hw1, hr1, hb1, hd1⟩ := open_ops h1
  have reach1 := reach_of (by_ := 16) hsz (j := 1) (t := 22) rfl rfl Try.underlying22 (by kernel_rfl) hd1
  clear hA0
  refine (walk z0 a1 l1 len1 cap1 W w0.1 w0.2 hr1 hl1 (fun o ho => (hw1 o ho).2) (by omega)).mono fun e W' ⟨he, bel⟩ => ?_
  subst he
  exact ⟨_, rfl, _, _, _, [], _, [], hW', trodAll_mk1 (shut_bool Try.underlying4 _), (trodAll_cons_mk (shut_int Try.underlying3 w00) (trodAll_cons_mk (Below.trod laidOut (by kernel_rfl) (of_decide_eq_true (by kernel_rfl)) k1 bel lt1) trodAll_mk0)), rfl, bel.frame _, fun h => by cases h⟩

set_option maxRecDepth 100000 in
theorem lifted (os : Os) (started : os.Started) (H : Type) (enc : TypeId × Value → H) :
    ReturnsInHanded {} Try.checked os 3 .any (Rows.sparsePlaysSpec.pre6 enc Try.prog Try.f3 Rows.sparsePlaysRow.domain false) (Rows.sparsePlaysSpec.post enc Try.prog Try.f3 false true false false) := by
  refine returnsInHanded_of_change_sized (C := Try.checked) own started (by kernel_rfl) Try.func3
    (ChangeSpec.witness6 (enc := enc) (C := Try.checked) false ⟨#[], #[.int .i64 0, .slice none 0 0], []⟩ 8 (by kernel_rfl) (by kernel_rfl) (by kernel_rfl) (by kernel_rfl)) ?_
  intro W base args ds gs before hval hW _ hsz _
  exact contract H enc W base args ds gs before hval hW hsz

/-- THE STATEMENT -/
theorem proved : Rows.SparsePlaysSaid :=
  OpenClaim.holds_of_wide 3 Try.f3 rfl rfl rfl rfl rfl rfl rfl ⟨rfl, rfl, rfl, rfl, rfl⟩ rfl rfl rfl rfl rfl (by kernel_rfl) Try.func3 (by kernel_rfl)
    (of_decide_eq_true (by kernel_rfl)) (by unfold Func.isWrapper; first | (rw [if_pos (by decide +kernel)]; kernel_rfl) | (rw [if_neg (by decide +kernel)]; exact ⟨rfl, rfl⟩))
    (fun os started H enc _ => lifted os started H enc)
end Go.Proofs.Ytckdjbonplpknaa.LawSparsePlays
