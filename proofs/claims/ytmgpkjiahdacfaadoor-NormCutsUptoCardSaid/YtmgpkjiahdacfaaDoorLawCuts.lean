/-
  Whatever numbers there are: cut ahead of a code point that opens, the normal form is that of both pieces. Conditions: the arguments hold at most 1048576 values; the package's tables are laid as the program's text lays them (tied).
-/
import Derived.Test.YtmgpkjiahdacfaaDoorNormOpen
import Derived.Deep.RegionLaw
namespace Go.Proofs.YtmgpkjiahdacfaaDoor.LawNormCuts
open Go.ChangeShapes Go.WideShapes Go.ChangeAt Go.RowKit
open Utf hiding infoI32 rd_new own_form rdec_any below_drewN new_any write_any close_any
open Ucd hiding grow same Told
open Norm

/-- 'append' at a step of a region that draws, the news read wherever they lie -/
theorem step_append_rd {P : Program} {w : World} {ops : Array Oper} {o : Oper} {a : Act} {K : Act → World → Prop} {Q : Exit → Act → World → Prop} {E : Prop} (hgd : o.guard = none) (s x : Operand) (t : TypeId)
    (ho : o.op = .call { callee := .builtin .append, args := #[s, x], argTypes := #[t, t] })
    (base : Nat) (e : TypeId) (i : TypeInfo) (z : Value) (size bytes : Nat) (ht : P.underlying t = some (.slice e)) (hi : P.info? e = some i) (hz : i.zero = some z)
    (hsize : i.size = size) (hby : i.bytes = bytes) (hzs : z.cells.size = size) (hsz : 0 < size)
    (v : Value) (n : Nat) (xs : List Value) (hs : a.eval s = v) (hown : w.ownsRow base e size v n xs)
    (B : Nat) (A : Option Addr) (m c : Nat) (news : List Value) (hx : a.eval x = .slice A m c) (hl : news.length = m * size) (hr : Rd w B A news) (h1 : ∀ u ∈ news, u.oneCell' = true)
    (h63 : n + m ≤ maxLen) (hbytes : (n + m) * bytes ≤ 140737488355328) (hbase : base ≤ w.heap.size)
    (h : ∀ v' w', w'.ownsRow base e size v' (n + m) (xs ++ news) → w.grownBy w' v.ownBlock → (v'.ownBlock = v.ownBlock ∨ v'.ownBlock = some w.heap.size) → K (a.put o.dst v') w') :
    if Region.wanted o (yielded ops a.tmps) = true then Oper.wp P o a w K Q else E := by
  have hw : Region.wanted o (yielded ops a.tmps) = true := by simp [Region.wanted, hgd]
  rw [if_pos hw]
  exact wp_append_rd w s x t ho base e i z size bytes ht hi hz hsize hby hzs hsz v n xs hs hown B A m c news hx hl hr h1 h63 hbytes hbase h
theorem arg_to (b o n c t : Nat) (ht : t ≤ n) (hc : n ≤ c) (h0 : 0 < c) (u : World) : (Instr.slice 22 (.slice (some ⟨b, o, none⟩) n c) none (some (.int .i64 t)) none).run Tryd.prog u = .ok (.slice (some ⟨b, o, none⟩) t c) u := by
  have he : Tryd.prog.elem 22 = 21 := by simp [Program.elem, Tryd.underlying22]
  have hadd : (⟨b, o, none⟩ : Addr).add 0 = ⟨b, o, none⟩ := by unfold Addr.add; split <;> simp_all
  have hcz : ¬ c = 0 := by omega
  rw [run_slice_h u 22 (some ⟨b, o, none⟩) n c (by rw [he]; exact Tryd.underlying22) .i64 (t : Int) (by omega) (by omega), he, Tryd.sizeOf21]
  simp [Result.andThen, sliced, hadd]
theorem arg_from (b o n c t : Nat) (ht : t < n) (hc : n ≤ c) (u : World) : (Instr.slice 22 (.slice (some ⟨b, o, none⟩) n c) (some (.int .i64 t)) none none).run Tryd.prog u = .ok (.slice (some ⟨b, o + t, none⟩) (n - t) (c - t)) u := by
  have he : Tryd.prog.elem 22 = 21 := by simp [Program.elem, Tryd.underlying22]
  have hadd : (⟨b, o, none⟩ : Addr).add (t * 1) = ⟨b, o + t, none⟩ := by unfold Addr.add; split <;> simp_all
  have hcz : ¬ c - t = 0 := by omega
  rw [run_slice_l u 22 (some ⟨b, o, none⟩) n c (by rw [he]; exact Tryd.underlying22) .i64 (t : Int) (by omega) (by omega), he, Tryd.sizeOf21]
  simp only [Result.andThen, sliced, Int.toNat_natCast]
  simp [hcz, show ¬ c ≤ t from by omega, show ¬ c = t from by omega]
  unfold Addr.add; split <;> simp_all
theorem rd_take {w : World} {B : Nat} {A : Option Addr} {xs : List Int} (h : Rd w B A (nums xs)) (t : Nat) : Rd w B A (nums (xs.take t)) := fun hne => by
  have hx : nums xs ≠ [] := fun e => by
    apply hne
    have : xs = [] := by simpa [nums] using e
    rw [this]; simp [nums]
  obtain ⟨b, o, h1, h2, h3⟩ := h hx
  refine ⟨b, o, h1, h2, fun j u hu => h3 j u ?_⟩
  simp only [nums, List.getElem?_map, Option.map_eq_some_iff] at hu ⊢
  obtain ⟨x, hx, hu⟩ := hu
  exact ⟨x, by rw [List.getElem?_take] at hx; split at hx <;> simp_all, hu⟩
theorem rd_drop {w : World} {B b o : Nat} {xs : List Int} (h : Rd w B (some ⟨b, o, none⟩) (nums xs)) (t : Nat) (ht : t < xs.length) : Rd w B (some ⟨b, o + t, none⟩) (nums (xs.drop t)) := fun _ => by
  obtain ⟨b', o', h1, h2, h3⟩ := h (by intro e; have := congrArg List.length e; rw [nums_len] at this; simp at this; subst this; simp at ht)
  simp only [Option.some.injEq, Addr.mk.injEq, and_true] at h1
  obtain ⟨rfl, rfl⟩ := h1
  refine ⟨b, o + t, rfl, h2, fun j u hu => ?_⟩
  rw [Nat.add_assoc]
  refine h3 (t + j) u ?_
  simpa [nums, List.getElem?_drop] using hu

set_option maxHeartbeats 16000000 in
set_option maxRecDepth 100000 in
theorem walk (A : Option Addr) (l : List Int) (n c : Nat) (z : Int) (w : World) (hL : Laid w) (hr : Rd w w.heap.size A (nums l)) (hn : l.length = n) (hnc : n ≤ c) (hcm : c ≤ 9223372036854775807) (hsm : n ≤ 1048576) :
    Calls Tryd.prog 7 #[.slice A n c, .int .i64 z] w (Law w) := by
  obtain ⟨i0, hi, hz0, hz1, hz2⟩ := info_parts Ucd.infoI32
  have HN := Lib.hid hn; have HL := Lib.hid hL; have HR := Lib.hid hr
  have HF := Lib.hid (fixed_any w hL)
  clear hn hL hr
  go_enter Tryd.func7, Tryd.ntmps7
  go_wp2_with fail
  refine HF.out.mono ?_
  rintro e w1 ⟨rfl, hb1⟩
  have HB1 := Lib.hid hb1
  have HL1 := Lib.hid (HL.out.below hb1 HL.out.size)
  have HR1 := Lib.hid ((HR.out.below hb1).more hb1.size)
  clear hb1 HF
  by_cases hn0 : n = 0
  · subst hn0
    have HN1 := Lib.hid (normal_any A l 0 c w1 HL1.out HR1.out HN.out (by omega))
    have hx : normal l = [] := by rw [List.eq_nil_of_length_eq_zero HN.out]; rfl
    rw [hx] at HN1
    clear hx
    go_wp2_with fail
    refine HN1.out.mono ?_
    rintro e w2 ⟨v2, rfl, ho2, hb2⟩
    obtain ⟨A2, c2, rfl, _, _, _⟩ := own_form ho2
    have HB2 := Lib.hid (HB1.out.trans (hb2.mono HB1.out.size))
    clear ho2 hb2
    go_wp2_with fail
    go_ret
    exact ⟨rfl, HB2.out⟩
  · have hnz : (0 : Int) < (n : Int) := by omega
    obtain ⟨k, hk, hkn⟩ : ∃ k : Nat, wrap64 ((IntKind.u64.wrap z).tmod (n : Int)) = k ∧ k < n := by
      have h0 : 0 ≤ IntKind.u64.wrap z := by rw [IntKind.wrap_u64]; exact Int.emod_nonneg _ (by decide)
      generalize IntKind.u64.wrap z = u at h0 ⊢
      have h1 : u.tmod (n : Int) = u % (n : Int) := Int.tmod_eq_emod_of_nonneg h0
      have h2 : 0 ≤ u % (n : Int) := Int.emod_nonneg _ (by omega)
      have h3 : u % (n : Int) < (n : Int) := Int.emod_lt_of_pos _ (by omega)
      refine ⟨(u % (n : Int)).toNat, ?_, by omega⟩
      rw [h1, IntWalk.wrap64_in _ ⟨by omega, by omega⟩]
      omega
    have hkl : k < l.length := by rw [HN.out]; exact hkn
    obtain ⟨b, o, rfl, hbl⟩ := HR.out.form (by rw [nums_len, HN.out]; omega)
    have hcell : w1.cell? ⟨b, o + k, none⟩ = some (.int .i32 l[k]) := (HR.out.below HB1.out).num hkl
    have hdr : l.drop k = l[k] :: l.drop (k + 1) := List.drop_eq_getElem_cons hkl
    have HCT := Lib.hid (fun h : opn l[k] = true => show normal l = normal (l.take k) ++ normal (l.drop k) by
      have := normal_cut (l.take k) l[k] (l.drop (k + 1)) h
      rw [← hdr, List.take_append_drop] at this
      exact this)
    have hft : (normal (l.take k)).length ≤ 3 * k := by have h1 := fulls_len (l.take k); rw [normal, nf_len]; rw [List.length_take] at h1; omega
    have hfd : (normal (l.drop k)).length ≤ 3 * n := by have h1 := fulls_len (l.drop k); have := HN.out; rw [normal, nf_len]; rw [List.length_drop] at h1; omega
    have hs1 := fun u => arg_to b o n c k (by omega) hnc (by omega) u
    have hs2 := fun u => arg_from b o n c k hkn hnc u
    obtain ⟨m2, hm2⟩ : ∃ m2, m2 = n - k := ⟨_, rfl⟩
    obtain ⟨c2, hc2⟩ : ∃ c2, c2 = c - k := ⟨_, rfl⟩
    obtain ⟨o2, ho2⟩ : ∃ o2, o2 = o + k := ⟨_, rfl⟩
    have hrt := rd_take HR.out k
    have hrd := rd_drop HR.out k hkl
    rw [← ho2] at hrd hcell hs2
    rw [← hm2, ← hc2] at hs2
    have hn1 : (l.take k).length = k := by rw [List.length_take]; omega
    have hn2 : (l.drop k).length = m2 := by rw [List.length_drop, HN.out, hm2]
    have HN1 := Lib.hid (fun (u : World) (h : Below w.heap.size w u) => normal_any (some ⟨b, o, none⟩) (l.take k) k c u (HL.out.below h HL.out.size) ((hrt.below h).more h.size) hn1 (by omega))
    have HN2 := Lib.hid (fun (u : World) (h : Below w.heap.size w u) => normal_any (some ⟨b, o2, none⟩) (l.drop k) m2 c2 u (HL.out.below h HL.out.size) ((hrd.below h).more h.size) hn2 (by omega))
    have HN3 := Lib.hid (fun (u : World) (h : Below w.heap.size w u) => normal_any (some ⟨b, o, none⟩) l n c u (HL.out.below h HL.out.size) ((HR.out.below h).more h.size) HN.out (by omega))
    have HO := Lib.hid (ropens_any l[k] w1)
    generalize l[k] = r at hcell HO HCT
    generalize hX1 : normal (l.take k) = X1 at HN1 HCT hft
    generalize hX2 : normal (l.drop k) = X2 at HN2 HCT hfd
    generalize hX : normal l = X at HN3 HCT
    obtain ⟨x1, hx1⟩ : ∃ x, x = X1.length := ⟨_, rfl⟩
    obtain ⟨x2, hx2⟩ : ∃ x, x = X2.length := ⟨_, rfl⟩
    rw [← hx1] at hft
    rw [← hx2] at hfd
    have HX1 := Lib.hid hx1
    have HX2 := Lib.hid hx2
    have HOE := Lib.hid ho2
    clear hkl hdr hrt hrd hn1 hn2 hX1 hX2 hX hx1 hx2 hm2 hc2 hn0 ho2
    cases hop : opn r with
    | false =>
      rw [hop] at HO
      clear HCT hop
      rw [HOE.out] at hcell
      go_wp2_with fail
      refine HO.out.mono ?_
      rintro e w2 ⟨rfl, hb2⟩
      have HB2 := Lib.hid (HB1.out.trans (hb2.mono HB1.out.size))
      clear hb2
      go_wp2_with fail
      go_ret
      exact ⟨rfl, HB2.out⟩
    | true =>
      rw [hop] at HO
      have HXE := Lib.hid (HCT.out hop)
      clear HCT hop
      rw [HOE.out] at hcell
      go_wp2_with fail
      refine HO.out.mono ?_
      rintro e w2 ⟨rfl, hb2⟩
      have HB2 := Lib.hid (HB1.out.trans (hb2.mono HB1.out.size))
      have HB3 := Lib.hid (below_drewN HB2.out 1)
      clear hb2 hcell
      go_wp2_with fail
      clear hk
      go_region_law (first
        | (refine step_append_rd rfl (.tmp 31) (.tmp 35) _ rfl w.heap.size 21 i0 _ 1 4 Tryd.underlying22 hi hz0 hz1 hz2 rfl (by decide) _ x1 (nums X1) rfl HO5.out _ A5 x2 c5 (nums X2) rfl (by rw [nums_len, HX2.out, Nat.mul_one]) HR5.out (nums_one X2) (by unfold maxLen; omega) (by omega) HB5.out.size ?_
           intro v6 w6 hown6 hgr6 _
           have HB6 := Lib.hid (HB5.out.grown hgr6 HB5.out.size (fun y hy => (HO5.out.lt y hy).1))
           rw [← nums_append, ← HXE.out] at hown6
           obtain ⟨A6, c6, rfl, _, _, _⟩ := own_form hown6
           have HO6 := Lib.hid hown6
           clear hown6 hgr6)
        | (go_simp
           go_wp2_with (first
            | (go_at_call_of 15 m2
               refine (HN2.out _ HB4.out).mono ?_
               rintro e w5 ⟨v5, rfl, ho5, hb5⟩
               have HB5 := Lib.hid (HB4.out.trans (hb5.mono HB4.out.size))
               have HO5 := Lib.hid (Ucd.own_below HO4.out hb5)
               rw [← HX2.out] at ho5
               obtain ⟨A5, c5, rfl, _, _, hr5⟩ := own_form ho5
               have HR5 := Lib.hid hr5
               clear ho5 hb5 hr5)
            | (go_at_call_of 15 k
               refine (HN1.out _ HB3.out).mono ?_
               rintro e w4 ⟨v4, rfl, ho4, hb4⟩
               have HB4 := Lib.hid (HB3.out.trans (hb4.mono HB3.out.size))
               have ho4' := own_mono ho4 HB3.out.size
               rw [← HX1.out] at ho4'
               obtain ⟨A4, c4, rfl, _, _, _⟩ := own_form ho4'
               have HO4 := Lib.hid ho4'
               clear ho4 ho4' hb4)
            | (go_at_call_of 15 n
               refine (HN3.out _ HB6.out).mono ?_
               rintro e w7 ⟨v7, rfl, ho7, hb7⟩
               have HB7 := Lib.hid (HB6.out.trans (hb7.mono HB6.out.size))
               have HO7 := Lib.hid (Ucd.own_below HO6.out hb7)
               obtain ⟨A7, c7, rfl, _, _, hr7⟩ := own_form ho7
               have HSM := Lib.hid (same_any A6 A7 X X (x1 + x2) X.length c6 c7 w7 (Rd.of_own HO7.out) hr7 (by rw [HXE.out, List.length_append, HX1.out, HX2.out]) rfl (by omega) (by rw [HXE.out, List.length_append, ← HX1.out, ← HX2.out]; omega))
               have hss : Ucd.same X X = true := decide_eq_true rfl
               rw [hss] at HSM
               clear ho7 hb7 hr7 hss)
            | (go_at_call 14
               refine HSM.out.mono ?_
               rintro e w8 ⟨rfl, q8, hw8⟩
               have HB8 := Lib.hid (show Below w.heap.size w w8 by rw [hw8]; exact below_drewN HB7.out q8)
               clear hw8))))
      go_wp2_with fail
      go_ret
      exact ⟨rfl, HB8.out⟩

theorem contract (H : Type) (enc : TypeId × Value → H) (W : World) (base : Nat) (args : Array Value) (ds gs : List (DataW H)) (before : List MemPlace)
    (hval : ∀ (j : Nat) t v, Tryd.f7.params[j]? = some t → args[j]? = some v → Value.okWide Tryd.prog W .any base t v)
    (hW : DataW.Whole enc Tryd.prog Tryd.f7.params.toList Rows.normCutsSpec.vars false W args.toList ds gs before) (hLL : laidMetH Tryd.prog Rows.normCutsUptoRow.laid W) (hk : Rows.uptoSmall H (ds ++ gs) = true) :
    Calls Tryd.prog 7 args W fun e W' => ∃ v, e = .returned v ∧ Rows.normCutsSpec.post enc Tryd.prog Tryd.f7 false true false false W args v W' := by
  have hL : Laid W := laid_of hLL
  have hW' := hW
  obtain ⟨p, q, hA0, hV, rfl, hfz, hnd⟩ := hW
  have hA : DataW.TrodAll enc Tryd.prog W 0 (fun _ => true) true Tryd.f7.params.toList args.toList ds p := hA0
  rw [Tryd.params7] at hA hval
  obtain ⟨v0, vs0, d0, ds0, p0, q0, hargs, rfl, rfl, h0, r0⟩ := trodAll_cons hA
  obtain ⟨v1, vs1, d1, ds1, p1, q1, rfl, rfl, rfl, h1, r1⟩ := trodAll_cons r0
  obtain ⟨rfl, rfl, rfl⟩ := trodAll_nil r1
  obtain rfl : args = #[v0, v1] := by cases args; simp_all
  obtain ⟨rfl, rfl⟩ := trodVars_none hV
  obtain ⟨a0, len0, cap0, rfl⟩ := okWide_slice Tryd.underlying22 (hval 0 22 v0 rfl rfl)
  have k0 := h0
  have lt0 : ∀ x ∈ p0, x.block < W.heap.size := by obtain ⟨m, hm⟩ := k0; exact DataW.trod_lt m _ _ _ hm
  obtain ⟨l0, hl0, hc0, hm0, hw0, hr0, hb0, hd0⟩ := open_nums h0
  obtain ⟨z1, rfl, rfl, rfl, w1⟩ := open_int Tryd.underlying3 (hval 1 3 v1 rfl rfl) h1
  have hbd := bulk_bound hk
  simp only [List.append_nil, Rows.uptoBulkAll] at hbd
  clear hA0
  refine (walk a0 l0 len0 cap0 z1 W hL hr0 hl0 hc0 hm0 (by omega)).mono fun e W' ⟨he, bel⟩ => ?_
  subst he
  exact ⟨_, rfl, _, _, _, [], _, [], hW', trodAll_mk1 (shut_bool Tryd.underlying4 _), (trodAll_cons_mk (Below.trod laidOut (by kernel_rfl) (of_decide_eq_true (by kernel_rfl)) k0 bel lt0) (trodAll_cons_mk (shut_int Tryd.underlying3 w1) trodAll_mk0)), rfl, bel.frame _, fun h => by cases h⟩

theorem laid_met (os : Os) : laidMet Tryd.prog Rows.normCutsUptoRow.laid ((laidWorld os).forCall (fun _ _ => 0) ⟨#[], #[.slice none 0 0, .int .i64 0], []⟩).memory :=
  laidMet_of_run' 8 (by kernel_rfl) (by kernel_rfl)
theorem reads (os : Os) {H : Type} (enc : TypeId × Value → H) : ∃ places, DataW.whole enc Tryd.prog ((laidWorld os).forCall (fun _ _ => 0) ⟨#[], #[.slice none 0 0, .int .i64 0], []⟩).memory Tryd.f7.params.toList Rows.normCutsSpec.vars false (#[.slice none 0 0, .int .i64 0] : Array Value).toList 8 = some ([.nil, .lit (.int .i64 0)], [], places) :=
  ⟨[], by kernel_rfl⟩

set_option maxRecDepth 100000 in
theorem lifted (os : Os) (started : os.Started) (H : Type) (enc : TypeId × Value → H) (F : Stop.Interp) :
    ReturnsInHanded {} Tryd.checked os 7 .any ((Rows.OpenSpec.upto Rows.normCutsSpec).preRow enc Tryd.prog Tryd.f7 Rows.normCutsUptoRow.domain false Rows.normCutsUptoRow.laid) (((Rows.OpenSpec.upto Rows.normCutsSpec).at F).post enc Tryd.prog Tryd.f7 false true false false) := by
  obtain ⟨places, hx⟩ := reads os enc
  refine returnsInHanded_of_row (C := Tryd.checked) (s := Rows.OpenSpec.upto Rows.normCutsSpec) own started (by kernel_rfl) Tryd.func7
    (witness_row_at (enc := enc) (C := Tryd.checked) false (laidWorld os) #[.slice none 0 0, .int .i64 0] rfl (by kernel_rfl) (by kernel_rfl) (by kernel_rfl)
      (OpenSpec.preRow_of_cond 8 hx (by kernel_rfl) (fun k hk => by cases hk; kernel_rfl) (by kernel_rfl) (laid_met os))) ?_
  intro W base args ds gs before hval hW _ hcond _ hL _ _
  exact contract H enc W base args ds gs before hval hW hL (hcond _ rfl)

theorem said : Rows.NormCutsUptoSaid :=
  OpenClaim.holds_of_cond 7 Tryd.f7 rfl rfl rfl rfl rfl rfl rfl ⟨rfl, rfl, rfl, rfl, rfl⟩ rfl rfl rfl rfl rfl (by kernel_rfl) Tryd.func7 (by kernel_rfl)
    (of_decide_eq_true (by kernel_rfl)) (by unfold Func.isWrapper; first | (rw [if_pos (by decide +kernel)]; kernel_rfl) | (rw [if_neg (by decide +kernel)]; exact ⟨rfl, rfl⟩))
    (fun os started H enc _ F => by rw [OpenClaim.pre_eq_preRow]; exact lifted os started H enc F)

/-- no parameter wants a stand-in; the program's own looks are off -/
theorem plain (f : FuncId) (fn : Func) (hf : Tryd.pinned.checked.prog.funcNamed Rows.normCutsUptoRow.func = some f) (hfn : Tryd.pinned.checked.prog.funcs[f]? = some fn) :
    false = Tryd.pinned.checked.prog.looks [] ∧ ∀ (j : Nat) t, fn.params[j]? = some t → Tryd.pinned.checked.prog.wantsStandIn t = false := by
  obtain rfl : f = 7 := Option.some.inj ((show Tryd.prog.funcNamed Rows.normCutsUptoRow.func = some 7 by kernel_rfl).symm.trans hf) |>.symm
  obtain rfl : fn = Tryd.f7 := (Option.some.inj (Tryd.func7.symm.trans hfn)).symm
  refine ⟨by kernel_rfl, fun j t ht => ?_⟩
  rw [Tryd.params7] at ht
  have hm := Array.mem_of_getElem? ht
  simp only [List.mem_toArray, List.mem_cons, List.not_mem_nil, or_false] at hm
  rcases hm with rfl | rfl
  all_goals first | exact (show Tryd.prog.wantsStandIn 22 = false by kernel_rfl) | exact (show Tryd.prog.wantsStandIn 3 = false by kernel_rfl)

/-- THE STATEMENT -/
theorem proved : Rows.NormCutsUptoCardSaid :=
  Claim7.holds_tied_plain_at .later [] _ _ _ _ said (fun _ h => by cases h) (by kernel_rfl) (fun _ h => by cases h) normCutsUpto_row_tie rfl ⟨rfl, rfl⟩ (by kernel_rfl) rfl plain (by kernel_rfl)
end Go.Proofs.YtmgpkjiahdacfaaDoor.LawNormCuts
