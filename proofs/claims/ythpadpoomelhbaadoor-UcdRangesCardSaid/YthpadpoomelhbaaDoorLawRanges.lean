/-
  Whatever number a category is and whatever numbers there are: the category's ranges are what the document says, and each of the numbers lies in them if and only if that is its category. Conditions: the package's tables are laid as the program's text lays them (tied).
-/
import Derived.Test.YthpadpoomelhbaaDoorUcdOpen
import Derived.Test.YthpadpoomelhbaaDoorUcdRranges
import Derived.Test.YthpadpoomelhbaaDoorUcdCat
import Derived.BigQuiet
namespace Go.Proofs.YthpadpoomelhbaaDoor.LawUcdRanges
open Go.ChangeShapes Go.WideShapes Go.ChangeAt Go.RowKit Utf Ucd

def inL (r : Int) (l : List (Int × Int)) : Bool := l.any fun x => decide (x.1 ≤ r) && decide (r ≤ x.2)
def endsL (l : List (Int × Int)) : List Int := l.flatMap fun x => [x.1, x.2 + 1]
theorem inL_same {r b : Int} : ∀ {l : List (Int × Int)}, (∀ y ∈ endsL l, (y ≤ r ↔ y ≤ b)) → inL r l = inL b l := by
  intro l
  induction l with
  | nil => intro _; rfl
  | cons x t ih =>
    intro h
    have h1 := h x.1 (by simp [endsL])
    have h2 := h (x.2 + 1) (by simp [endsL])
    have h3 := ih fun y hy => h y (by simp only [endsL, List.flatMap_cons, List.mem_append] at hy ⊢; exact .inr hy)
    simp only [inL, List.any_cons] at h3 ⊢
    rw [h3, decide_eq_decide.2 h1, decide_eq_decide.2 (show r ≤ x.2 ↔ b ≤ x.2 by omega)]
theorem cat_span (r : Int) : 1 ≤ cat r ∧ cat r ≤ 7 := by
  refine at_all (p := fun r => 1 ≤ cat r ∧ cat r ≤ 7) (L := ends catRows) (fun r b h => ?_) ?_ (-1) ?_ ?_ r
  · rw [show cat r = cat b from look_same fun y hy => h y hy]
  · decide +kernel
  · decide +kernel
  · decide +kernel
theorem in_cat (c r : Int) (h0 : 0 ≤ r) (h1 : r ≤ 1114111) : inL r (rangesF c) = (cat r == c) := by
  by_cases hc : 1 ≤ c ∧ c ≤ 7
  · have hs : ∀ r b : Int, (∀ y ∈ endsL (rangesF c) ++ ends catRows ++ [0, 1114112], (y ≤ r ↔ y ≤ b)) → ((0 ≤ r → r ≤ 1114111 → inL r (rangesF c) = (cat r == c)) ↔ (0 ≤ b → b ≤ 1114111 → inL b (rangesF c) = (cat b == c))) := by
      intro r b h
      rw [show cat r = cat b from look_same fun y hy => h y (by simp [hy]), inL_same (b := b) fun y hy => h y (by simp [hy])]
      have a1 := h 0 (by simp)
      have a2 := h 1114112 (by simp)
      rw [show (0 ≤ r ↔ 0 ≤ b) from a1]
      have : r ≤ 1114111 ↔ b ≤ 1114111 := by omega
      rw [this]
    have h7 : c = 1 ∨ c = 2 ∨ c = 3 ∨ c = 4 ∨ c = 5 ∨ c = 6 ∨ c = 7 := by omega
    refine at_all (p := fun r => 0 ≤ r → r ≤ 1114111 → inL r (rangesF c) = (cat r == c)) (L := endsL (rangesF c) ++ ends catRows ++ [0, 1114112]) hs ?_ (-1) ?_ ?_ r h0 h1
    all_goals clear hs h0 h1 hc
    all_goals (rcases h7 with rfl | rfl | rfl | rfl | rfl | rfl | rfl) <;> decide +kernel
  · rw [ranges_none c hc]
    have := cat_span r
    have e : (cat r == c) = false := by rw [beq_eq_false_iff_ne]; omega
    rw [e]; rfl
theorem inL_take (r : Int) (l : List (Int × Int)) (k : Nat) (hk : k < l.length) : inL r (l.take (k + 1)) = (inL r (l.take k) || (decide (l[k].1 ≤ r) && decide (r ≤ l[k].2))) := by
  rw [List.take_succ_eq_append_getElem hk]; simp only [inL, List.any_append, List.any_cons, List.any_nil, Bool.or_false]

theorem rgFields : Tryd.prog.underlying 30 = some (.struct (Tryd.prog.fieldsOf 30)) := by kernel_rfl
theorem rgHeld : Tryd.prog.stoodInHeld 30 = false := by kernel_rfl
theorem neq_rg (w : World) (a b a' b' : Int) : (binOp .neq 30 (.agg #[.int .i32 a, .int .i32 b]) (.agg #[.int .i32 a', .int .i32 b'])).run Tryd.prog w = .ok (.bool (!(a == a' && b == b'))) w := by
  have u21 := Tryd.underlying21
  have a21 := Tryd.isAgg21
  have z21 := Tryd.sizeOf21
  rw [run_neq_struct, show (10000 : Nat) = 9999 + 1 from rfl, run_equalIn_agg w 9999 _ _ _ rgFields rgHeld]
  simp only [Program.fieldsOf, Tryd.underlying30]
  go_simp
  by_cases h1 : a = a' <;> by_cases h2 : b = b' <;> simp [h1, h2]
theorem rd_rg {w : World} {B : Nat} {l : List (Int × Int)} {b o : Nat} (h : Rd w B (some ⟨b, o, none⟩) (cR l)) {k : Nat} (hk : k < l.length) :
    w.cell? ⟨b, o + k * 2, none⟩ = some (.int .i32 l[k].1) ∧ w.cell? ⟨b, o + k * 2 + 1, none⟩ = some (.int .i32 l[k].2) := by
  have hlen := cR_len l
  obtain ⟨b', o', he, _, hc⟩ := h (by intro e; rw [e] at hlen; simp at hlen; omega)
  simp only [Option.some.injEq, Addr.mk.injEq, and_true] at he
  obtain ⟨rfl, rfl⟩ := he
  have e : l = l.take k ++ (l[k] :: l.drop (k + 1)) := by rw [← List.drop_eq_getElem_cons hk, List.take_append_drop]
  have hg : ∀ i, i < 2 → (cR l)[k * 2 + i]? = [Value.int .i32 l[k].1, .int .i32 l[k].2][i]? := by
    intro i hi
    have hx : ∀ y, y = l[k] → (cR l)[k * 2 + i]? = [Value.int .i32 y.1, .int .i32 y.2][i]? := by
      intro y hy
      rw [e, ← hy, cR_append, List.getElem?_append_right (by rw [cR_len, List.length_take]; omega), cR_len, List.length_take, show k * 2 + i - min k l.length * 2 = i from by omega]
      show ([Value.int .i32 y.1, .int .i32 y.2] ++ cR (l.drop (k + 1)))[i]? = _
      rw [List.getElem?_append_left (by simpa using hi)]
    exact hx _ rfl
  exact ⟨hc (k * 2) _ (hg 0 (by omega)), hc (k * 2 + 1) _ (hg 1 (by omega))⟩

set_option maxHeartbeats 8000000 in
theorem walk (z : Int) (A : Option Addr) (l : List Int) (n c : Nat) (w : World) (hL : Laid w) (hr : Rd w w.heap.size A (nums l)) (hn : l.length = n) (hb : n ≤ 9223372036854775807) :
    Calls Tryd.prog 4 #[.int .i64 z, .slice A n c] w (Law w) := by
  have HN := Lib.hid hn
  have HF := Lib.hid (fixed_any w hL)
  have HL := Lib.hid hL
  have HR := Lib.hid hr
  clear hn hL hr
  go_enter Tryd.func4, Tryd.ntmps4
  go_wp2_with fail
  refine HF.out.mono ?_
  rintro e w1 ⟨rfl, hb1⟩
  have HB1 := Lib.hid hb1; have HL1 := Lib.hid (HL.out.next hb1)
  clear hb1 HF
  go_wp2_with fail
  refine (ranges_any z _ HL1.out).mono ?_
  rintro e w2 ⟨v2, rfl, ho2, hb2⟩
  obtain ⟨A2, c2, rfl, hc2, hd2, hr2⟩ := own_form ho2
  have HB2 := Lib.hid (HB1.out.trans (hb2.mono HB1.out.size)); have HL2 := Lib.hid (HL1.out.next hb2); have HR2 := Lib.hid hr2
  clear hb2 ho2 hr2
  go_wp2_with fail
  refine (rranges_any z _).mono ?_
  rintro e w3 ⟨v3, rfl, ho3, hb3⟩
  obtain ⟨A3, c3, rfl, hc3, hd3, hr3⟩ := own_form ho3
  have HB3 := Lib.hid (HB2.out.trans (hb3.mono HB2.out.size)); have HL3 := Lib.hid (HL2.out.next hb3); have HR3 := Lib.hid hr3; have HG := Lib.hid ((HR2.out.below hb3).more hb3.size)
  clear hb3 ho3 hr3 HR2
  have HIN := Lib.hid (in_cat z)
  generalize rangesF z = L at hc2 hc3 HR3 HG HIN ⊢
  generalize hm : L.length = m at hc2 hc3 ⊢
  have HM := Lib.hid hm.symm
  clear hm
  go_wp2_with fail
  go_loopw [26] (fun i wr => ∃ k j : Nat, k ≤ m ∧ i = .int .i64 k ∧ Hid (wr = w3.drewN j)) (fun i _ => m - (intOf i).toNat)
  case atStart => exact ⟨0, 0, Nat.zero_le _, rfl, Lib.hid rfl⟩
  case round =>
    obtain ⟨k, j, hk, rfl, HJ⟩ := hrel
    by_cases hlt : k < m
    · have hkl : k < L.length := by rw [← HM.out]; exact hlt
      obtain ⟨b, o, rfl, _⟩ := HG.out.form (by rw [cR_len]; omega)
      obtain ⟨b', o', rfl, _⟩ := HR3.out.form (by rw [cR_len]; omega)
      have hwr : ∀ p : Addr, wr.cell? p = w3.cell? p := fun p => by rw [HJ.out]; rfl
      obtain ⟨a1, a2⟩ := rd_rg HG.out hkl
      obtain ⟨b1, b2⟩ := rd_rg HR3.out hkl
      rw [← hwr] at a1 a2 b1 b2
      generalize L[k] = x at a1 a2 b1 b2
      have hq : ∀ u : World, (binOp .neq 30 (.agg #[.int .i32 x.1, .int .i32 x.2]) (.agg #[.int .i32 x.1, .int .i32 x.2])).run Tryd.prog u = .ok (.bool false) u := fun u => by rw [neq_rg]; simp
      clear hwr hkl
      go_wp2_with fail
      go_quiet (fail)
      go_wp2
      go_roundw
      case rel => exact ⟨k + 1, _, by omega, by go_num, Lib.hid (by rw [HJ.out, World.drewN_drewN])⟩
      case measure => simp [intOf]; omega
    · have HBJ := Lib.hid (show Below w3.heap.size w3 wr by rw [HJ.out]; exact below_drewN (Below.refl _ _) j)
      clear HJ
      have HRW := Lib.hid ((HR.out.below HB3.out).more HB3.out.size)
      clear HR HR3 HL HL1 HL2 HB1 HB2
      go_wp2_with fail
      go_loopw [41] (fun i wq => ∃ q : Nat, q ≤ n ∧ i = .int .i64 q ∧ Hid (Below w3.heap.size w3 wq)) (fun i _ => n - (intOf i).toNat)
      case atStart => exact ⟨0, Nat.zero_le _, rfl, HBJ⟩
      case round =>
        obtain ⟨q, hq, rfl, H2⟩ := hrel
        by_cases hlt : q < n
        · have hql : q < l.length := by rw [HN.out]; exact hlt
          obtain ⟨b, o, rfl, _⟩ := HRW.out.form (by rw [nums_len]; omega)
          have hcell : wr.cell? ⟨b, o + q, none⟩ = some (.int .i32 l[q]) := (HRW.out.below H2.out).num hql
          generalize l[q] = r at hcell
          have HINr := Lib.hid (HIN.out r)
          clear hql HIN
          go_wp2_with fail
          go_loopw [47, 10] (fun i v wx => ∃ (k : Nat) (t : Bool), k ≤ m ∧ i = .int .i64 k ∧ v = .bool t ∧ Hid (inL r (L.take k) = t) ∧ Hid (Below w3.heap.size w3 wx)) (fun i _ _ => m - (intOf i).toNat)
          case atStart => exact ⟨0, false, Nat.zero_le _, rfl, rfl, Lib.hid rfl, H2⟩
          case round =>
            obtain ⟨k, t, hk, rfl, rfl, HT, H3⟩ := hrel
            by_cases hlt3 : k < m
            · have hkl : k < L.length := by rw [← HM.out]; exact hlt3
              obtain ⟨b2, o2, rfl, _⟩ := HG.out.form (by rw [cR_len]; omega)
              obtain ⟨a1, a2⟩ := rd_rg (HG.out.below H3.out) hkl
              have HTT := Lib.hid (inL_take r L k hkl)
              generalize L[k] = x at a1 a2 HTT
              obtain ⟨x, y⟩ := x
              dsimp only at a1 a2
              have HS := H3.out.size
              clear hkl
              cases t with
              | true =>
                go_wp2_with fail
                go_roundw
                case rel => exact ⟨k + 1, _, by omega, by go_num, rfl, Lib.hid (by rw [HTT.out, HT.out]; rfl), Lib.hid (H3.out.alloc HS _)⟩
                case measure => simp [intOf]; omega
              | false =>
                by_cases h1 : x ≤ r
                · by_cases h2 : r ≤ y
                  · go_wp2_with fail
                    go_roundw
                    case rel => exact ⟨k + 1, _, by omega, by go_num, rfl, Lib.hid (by rw [HTT.out, HT.out]; simp [h1, h2]), Lib.hid (H3.out.alloc HS _)⟩
                    case measure => simp [intOf]; omega
                  · go_wp2_with fail
                    go_roundw
                    case rel => exact ⟨k + 1, _, by omega, by go_num, rfl, Lib.hid (by rw [HTT.out, HT.out]; simp [h2]), Lib.hid (H3.out.alloc HS _)⟩
                    case measure => simp [intOf]; omega
                · go_wp2_with fail
                  go_roundw
                  case rel => exact ⟨k + 1, _, by omega, by go_num, rfl, Lib.hid (by rw [HTT.out, HT.out]; simp [h1]), Lib.hid (H3.out.alloc HS _)⟩
                  case measure => simp [intOf]; omega
            · have HE := Lib.hid (show inL r L = t by have := HT.out; rwa [List.take_of_length_le (by have := HM.out; omega)] at this)
              clear HT
              by_cases h0 : 0 ≤ r
              · by_cases h1 : r ≤ 1114111
                · have hvv : (!(t == (cat r == z))) = false := by rw [← HE.out, HINr.out h0 h1]; simp
                  have HC := Lib.hid (category_any r _ (HL3.out.below H3.out HL3.out.size))
                  generalize cat r = y at hvv HC
                  go_wp2_with fail
                  refine HC.out.mono ?_
                  rintro e w5 ⟨rfl, hb5⟩
                  have HB5 := Lib.hid (H3.out.trans (hb5.mono H3.out.size))
                  clear hb5 HC
                  go_wp2_with fail
                  go_roundw
                  case rel => exact ⟨q + 1, by omega, by go_num, HB5⟩
                  case measure => simp [intOf]; omega
                · go_wp2_with fail
                  go_roundw
                  case rel => exact ⟨q + 1, by omega, by go_num, H3⟩
                  case measure => simp [intOf]; omega
              · go_wp2_with fail
                go_roundw
                case rel => exact ⟨q + 1, by omega, by go_num, H3⟩
                case measure => simp [intOf]; omega
        · go_wp2_with fail
          go_ret
          exact ⟨rfl, HB3.out.trans (H2.out.mono HB3.out.size)⟩

theorem contract (H : Type) (enc : TypeId × Value → H) (W : World) (base : Nat) (args : Array Value) (ds gs : List (DataW H)) (before : List MemPlace)
    (hval : ∀ (j : Nat) t v, Tryd.f4.params[j]? = some t → args[j]? = some v → Value.okWide Tryd.prog W .any base t v)
    (hW : DataW.Whole enc Tryd.prog Tryd.f4.params.toList Rows.ucdRangesSpec.vars false W args.toList ds gs before) (hLL : laidMetH Tryd.prog Rows.ucdRangesRow.laid W) :
    Calls Tryd.prog 4 args W fun e W' => ∃ v, e = .returned v ∧ Rows.ucdRangesSpec.post enc Tryd.prog Tryd.f4 false true false false W args v W' := by
  have hL : Laid W := laid_of hLL
  have hW' := hW
  obtain ⟨p, q, hA0, hV, rfl, hfz, hnd⟩ := hW
  have hA : DataW.TrodAll enc Tryd.prog W 0 (fun _ => true) true Tryd.f4.params.toList args.toList ds p := hA0
  rw [Tryd.params4] at hA hval
  obtain ⟨v0, vs0, d0, ds0, p0, q0, hargs, rfl, rfl, h0, r0⟩ := trodAll_cons hA
  obtain ⟨v1, vs1, d1, ds1, p1, q1, rfl, rfl, rfl, h1, r1⟩ := trodAll_cons r0
  obtain ⟨rfl, rfl, rfl⟩ := trodAll_nil r1
  obtain rfl : args = #[v0, v1] := by cases args; simp_all
  obtain ⟨rfl, rfl⟩ := trodVars_none hV
  obtain ⟨z0, rfl, rfl, rfl, w0⟩ := open_int Tryd.underlying3 (hval 0 3 v0 rfl rfl) h0
  obtain ⟨a1, len1, cap1, rfl⟩ := okWide_slice Tryd.underlying22 (hval 1 22 v1 rfl rfl)
  have k1 := h1
  have lt1 : ∀ x ∈ p1, x.block < W.heap.size := by obtain ⟨m, hm⟩ := k1; exact DataW.trod_lt m _ _ _ hm
  obtain ⟨l1, hl1, hc1, hm1, hw1, hr1⟩ := open_nums h1
  clear hA0
  refine (walk z0 a1 l1 len1 cap1 W hL hr1 hl1 (by omega)).mono fun e W' ⟨he, bel⟩ => ?_
  subst he
  exact ⟨_, rfl, _, _, _, [], _, [], hW', trodAll_mk1 (shut_bool Tryd.underlying4 _), (trodAll_cons_mk (shut_int Tryd.underlying3 w0) (trodAll_cons_mk (Below.trod laidOut (by kernel_rfl) (of_decide_eq_true (by kernel_rfl)) k1 bel lt1) trodAll_mk0)), rfl, bel.frame _, fun h => by cases h⟩

theorem laid_met (os : Os) : laidMet Tryd.prog Rows.ucdRangesRow.laid ((laidWorld os).forCall (fun _ _ => 0) ⟨#[], #[.int .i64 0, .slice none 0 0], []⟩).memory :=
  laidMet_of_run' 8 (by kernel_rfl) (by kernel_rfl)
theorem reads (os : Os) {H : Type} (enc : TypeId × Value → H) : ∃ places, DataW.whole enc Tryd.prog ((laidWorld os).forCall (fun _ _ => 0) ⟨#[], #[.int .i64 0, .slice none 0 0], []⟩).memory Tryd.f4.params.toList Rows.ucdRangesSpec.vars false (#[.int .i64 0, .slice none 0 0] : Array Value).toList 8 = some ([.lit (.int .i64 0), .nil], [], places) :=
  ⟨[], by kernel_rfl⟩

set_option maxRecDepth 100000 in
theorem lifted (os : Os) (started : os.Started) (H : Type) (enc : TypeId × Value → H) (F : Stop.Interp) :
    ReturnsInHanded {} Tryd.checked os 4 .any ((OpenSpec.ofChange Rows.ucdRangesSpec).preRow enc Tryd.prog Tryd.f4 Rows.ucdRangesRow.domain false Rows.ucdRangesRow.laid) (((OpenSpec.ofChange Rows.ucdRangesSpec).at F).post enc Tryd.prog Tryd.f4 false true false false) := by
  obtain ⟨places, hx⟩ := reads os enc
  refine returnsInHanded_of_row (C := Tryd.checked) (s := OpenSpec.ofChange Rows.ucdRangesSpec) own started (by kernel_rfl) Tryd.func4
    (witness_row_at (enc := enc) (C := Tryd.checked) false (laidWorld os) #[.int .i64 0, .slice none 0 0] rfl (by kernel_rfl) (by kernel_rfl) (by kernel_rfl)
      (OpenSpec.preRow_of_cond 8 hx (by kernel_rfl) (fun k hk => by cases hk) (by kernel_rfl) (laid_met os))) ?_
  intro W base args ds gs before hval hW _ _ _ hL _ _
  exact contract H enc W base args ds gs before hval hW hL

theorem said : Rows.UcdRangesSaid :=
  OpenClaim.holds_of_cond 4 Tryd.f4 rfl rfl rfl rfl rfl rfl rfl ⟨rfl, rfl, rfl, rfl, rfl⟩ rfl rfl rfl rfl rfl (by kernel_rfl) Tryd.func4 (by kernel_rfl)
    (of_decide_eq_true (by kernel_rfl)) (by unfold Func.isWrapper; first | (rw [if_pos (by decide +kernel)]; kernel_rfl) | (rw [if_neg (by decide +kernel)]; exact ⟨rfl, rfl⟩))
    (fun os started H enc _ F => by rw [OpenClaim.pre_eq_preRow]; exact lifted os started H enc F)

/-- no parameter wants a stand-in; the program's own looks are off -/
theorem plain (f : FuncId) (fn : Func) (hf : Tryd.pinned.checked.prog.funcNamed Rows.ucdRangesRow.func = some f) (hfn : Tryd.pinned.checked.prog.funcs[f]? = some fn) :
    false = Tryd.pinned.checked.prog.looks [] ∧ ∀ (j : Nat) t, fn.params[j]? = some t → Tryd.pinned.checked.prog.wantsStandIn t = false := by
  obtain rfl : f = 4 := Option.some.inj ((show Tryd.prog.funcNamed Rows.ucdRangesRow.func = some 4 by kernel_rfl).symm.trans hf) |>.symm
  obtain rfl : fn = Tryd.f4 := (Option.some.inj (Tryd.func4.symm.trans hfn)).symm
  refine ⟨by kernel_rfl, fun j t ht => ?_⟩
  rw [Tryd.params4] at ht
  have hm := Array.mem_of_getElem? ht
  simp only [List.mem_toArray, List.mem_cons, List.not_mem_nil, or_false] at hm
  rcases hm with rfl | rfl
  all_goals first | exact (show Tryd.prog.wantsStandIn 3 = false by kernel_rfl) | exact (show Tryd.prog.wantsStandIn 22 = false by kernel_rfl)

/-- THE STATEMENT -/
theorem proved : Rows.UcdRangesCardSaid :=
  Claim7.holds_tied_plain_at .later [] _ _ _ _ said (fun _ h => by cases h) (by kernel_rfl) (fun _ h => by cases h) ucdRanges_row_tie rfl ⟨rfl, rfl⟩ (by kernel_rfl) rfl plain (by kernel_rfl)
end Go.Proofs.YthpadpoomelhbaaDoor.LawUcdRanges
