/-
  Whatever numbers there are: a set of single numbers has these and no others. Conditions: the arguments hold together at most 1048576 values.
-/
import Derived.Test.YtldcjeljdmjneaaRsetFixed
import Derived.Laws.OwnMore
namespace Go.Proofs.Ytldcjeljdmjneaa.LawRsetPoints
open Go.ChangeShapes Go.WideShapes Go.ChangeAt Go.RowKit
open Utf (Rd Blk nums nums_len nums_append nums_one nums_get wpList_append_rd own_ne)
open Rset
set_option maxRecDepth 100000

/-! ### sets of single numbers -/
def sing (l : List Int) : List Rg := l.map fun r => (r, r)
theorem sing_len (l : List Int) : (sing l).length = l.length := List.length_map _
theorem sing_take (l : List Int) (k : Nat) (hk : k < l.length) : sing (l.take (k + 1)) = sing (l.take k) ++ [(l[k], l[k])] := by
  rw [List.take_succ_eq_append_getElem hk]; unfold sing; rw [List.map_append]; rfl
theorem sing_any (l : List Int) (x : Int) : anyIn (sing l) x = l.any fun y => y == x := by
  unfold anyIn sing
  rw [List.any_map]
  congr 1
  funext y
  show inn (y, y) x = (y == x)
  rw [Bool.eq_iff_iff, inn_iff, beq_iff_eq]
  simp only []
  omega
theorem sing_fit {l : List Int} (h : ∀ n ∈ l, -2147483648 ≤ n ∧ n ≤ 2147483647) : Fit (sing l) := fun r hr => by
  obtain ⟨n, hn, rfl⟩ := List.mem_map.1 hr
  exact ⟨h n hn, h n hn⟩
/-- is one of them the number? -/
def isIn (l : List Int) (x : Int) : Bool := l.any fun y => y == x
/-- how many there are, each once, that a set may have -/
def fresh : List Int → Nat
  | [] => 0
  | r :: t => (if inR r = true ∧ isIn t r = false then 1 else 0) + fresh t
/-- the same from the front -/
def freshF (l : List Int) : Nat := fresh l.reverse
theorem isIn_rev (l : List Int) (x : Int) : isIn l.reverse x = isIn l x := by unfold isIn; rw [List.any_reverse]
theorem freshF_take (l : List Int) (k : Nat) (hk : k < l.length) : freshF (l.take (k + 1)) = freshF (l.take k) + (if inR l[k] = true ∧ isIn (l.take k) l[k] = false then 1 else 0) := by
  unfold freshF
  rw [List.take_succ_eq_append_getElem hk, List.reverse_append, List.reverse_singleton, List.singleton_append]
  have e : ∀ (r : Int) (t : List Int), fresh (r :: t) = (if inR r = true ∧ isIn t r = false then 1 else 0) + fresh t := fun _ _ => rfl
  rw [e, isIn_rev, Nat.add_comm]
theorem num_one (r : Int) (h : inR r = true) : num 1114112 (fun x => r == x) = 1 := by
  have h2 := inR_iff.1 h
  have h1 := num_inn (r, r) h2.1 (Int.le_refl _) 1114112
  have h3 : num 1114112 (inn (r, r)) = num 1114112 (fun x => r == x) := num_congr fun x _ _ => by
    rw [Bool.eq_iff_iff, inn_iff, beq_iff_eq]; simp only []; omega
  rw [h3] at h1
  simp only [] at h1
  rw [if_neg (by omega), if_neg (by omega)] at h1
  omega
theorem fresh_num (l : List Int) : num 1114112 (fun x => isIn l x) = fresh l := by
  induction l with
  | nil => exact num_false _
  | cons r t ih =>
    have e : (fun x => isIn (r :: t) x) = fun x => (r == x) || isIn t x := rfl
    have h1 := num_or 1114112 (fun x => r == x) (fun x => isIn t x)
    unfold fresh
    rw [e]
    by_cases hr : inR r = true
    · have h2 := num_one r hr
      by_cases hi : isIn t r = true
      · have h3 : num 1114112 (fun x => (r == x) && isIn t x) = num 1114112 (fun x => r == x) := num_congr fun x _ _ => by
          by_cases hx : r = x
          · subst hx; rw [hi, Bool.and_true]
          · have : (r == x) = false := by simpa using hx
            rw [this, Bool.false_and]
        rw [if_neg (fun h => by rw [hi] at h; exact absurd h.2 (by simp))]
        omega
      · have h3 : num 1114112 (fun x => (r == x) && isIn t x) = 0 := by
          rw [← num_false 1114112]
          refine num_congr fun x _ _ => ?_
          by_cases hx : r = x
          · subst hx; rw [Bool.eq_false_iff.2 hi, Bool.and_false]
          · have : (r == x) = false := by simpa using hx
            rw [this, Bool.false_and]
        rw [if_pos ⟨hr, Bool.eq_false_iff.2 hi⟩]
        omega
    · have h4 : ∀ x : Int, 0 ≤ x → x < ((1114112 : Nat) : Int) → (r == x) = false := fun x h0 h1 => by
        rw [Bool.eq_false_iff, Ne, beq_iff_eq]
        rintro rfl
        exact hr (inR_iff.2 ⟨h0, by omega⟩)
      have h2 : num 1114112 (fun x => r == x) = 0 := by
        rw [← num_false 1114112]; exact num_congr h4
      have h3 : num 1114112 (fun x => (r == x) && isIn t x) = 0 := by
        rw [← num_false 1114112]
        exact num_congr fun x h0 h1 => by rw [h4 x h0 h1, Bool.false_and]
      rw [if_neg (fun h => hr h.1)]
      omega
theorem cnt_sing (l : List Int) : cnt (norm (sing l)) = freshF l := by
  have h1 : num 1114112 (has (sing l)) = num 1114112 (fun x => isIn l.reverse x) := num_congr fun x h0 h1 => by
    unfold has
    rw [inR_iff.2 ⟨h0, by omega⟩, Bool.true_and, sing_any, isIn_rev]; rfl
  rw [cnt_norm, h1, fresh_num]; rfl
theorem freshF_le (l : List Int) : freshF l ≤ l.length := by
  have : ∀ l : List Int, fresh l ≤ l.length := by
    intro l
    induction l with
    | nil => exact Nat.le_refl _
    | cons r t ih => unfold fresh; rw [List.length_cons]; split <;> omega
  have h := this l.reverse
  rwa [List.length_reverse] at h
theorem has_sing (l : List Int) (x : Int) : has (norm (sing l)) x = (inR x && isIn l x) := by
  rw [norm_has]; unfold has; rw [sing_any]; rfl
theorem isIn_take (l : List Int) (x : Int) (k : Nat) (hk : k < l.length) : isIn (l.take (k + 1)) x = (isIn (l.take k) x || (l[k] == x)) := by
  unfold isIn; rw [List.take_succ_eq_append_getElem hk, List.any_append]; simp

theorem num_to (b o n c t : Nat) (ht : t ≤ n) (hc : n ≤ c) (h0 : 0 < c) (u : World) : (Instr.slice 31 (.slice (some ⟨b, o, none⟩) n c) none (some (.int .i64 t)) none).run Try.prog u = .ok (.slice (some ⟨b, o, none⟩) t c) u := by
  have he : Try.prog.elem 31 = 21 := by simp [Program.elem, Try.underlying31]
  have hadd : (⟨b, o, none⟩ : Addr).add 0 = ⟨b, o, none⟩ := by unfold Addr.add; split <;> simp_all
  have hcz : ¬ c = 0 := by omega
  rw [run_slice_h u 31 (some ⟨b, o, none⟩) n c (by rw [he]; exact Try.underlying31) .i64 (t : Int) (by omega) (by omega), he, Try.sizeOf21]
  simp [Result.andThen, sliced, hadd]
/-- what can be read, through the loops -/
structure PI (w : World) (A B : Option Addr) (a b : List Int) (As : Option Addr) (q : Nat) (wr : World) : Prop where
  sg : Arg wr As q (sing a)
  rda : Rd wr wr.heap.size A (nums a)
  rdb : Rd wr wr.heap.size B (nums b)
  bel : Below w.heap.size w wr
theorem PI.next {w : World} {A B : Option Addr} {a b : List Int} {As : Option Addr} {q : Nat} {wr w' : World} (h : PI w A B a b As q wr) (hb : Below wr.heap.size wr w') : PI w A B a b As q w' :=
  ⟨h.sg.next hb, (h.rda.below hb).more hb.size, (h.rdb.below hb).more hb.size, h.bel.trans (hb.mono h.bel.size)⟩
theorem inR_dec (r : Int) : inR r = (decide (0 ≤ r) && decide (r ≤ 1114111)) := rfl

set_option maxHeartbeats 16000000 in
theorem walk (A B : Option Addr) (a b : List Int) (n m c d : Nat) (w : World) (hA : Rd w w.heap.size A (nums a)) (hB : Rd w w.heap.size B (nums b)) (hn : a.length = n) (hm : b.length = m) (fa : ∀ n ∈ a, -2147483648 ≤ n ∧ n ≤ 2147483647) (fb : ∀ n ∈ b, -2147483648 ≤ n ∧ n ≤ 2147483647) (hc : n ≤ c) (hsn : n ≤ 1048576) (hsm : m ≤ 1048576) :
    Calls Try.prog 9 #[.slice A n c, .slice B m d] w (Law w) := by
  obtain ⟨i0, hi, hz0, hz1, hz2⟩ := info_parts infoRg
  have HA := Lib.hid hA; have HBb := Lib.hid hB; have HN := Lib.hid hn; have HM := Lib.hid hm; have HFA := Lib.hid fa; have HFB := Lib.hid fb
  clear hA hB hn hm fa fb
  go_enter Try.func9, Try.ntmps9
  go_wp2_with fail
  refine (fixed_any _).mono ?_
  rintro e w0 ⟨rfl, hb0⟩
  replace HA := Lib.hid ((HA.out.below hb0).more hb0.size)
  replace HBb := Lib.hid ((HBb.out.below hb0).more hb0.size)
  have HB := Lib.hid hb0
  have hI : Hid (w0.ownsRow w0.heap.size 26 2 (.slice none 0 0) (sing (a.take 0)).length (rgs (sing (a.take 0))) ∧ Below w0.heap.size w0 w0) := ⟨World.ownsRow_nil _ _ _ _, Below.refl _ _⟩
  clear hb0
  go_wp2_with fail
  go_loopw [5, 23] (fun sv iv wr => ∃ (k : Nat) (v : Value), k ≤ n ∧ iv = .int .i64 k ∧ sv = v ∧ Hid (wr.ownsRow w0.heap.size 26 2 v (sing (a.take k)).length (rgs (sing (a.take k))) ∧ Below w0.heap.size w0 wr)) (fun _ iv _ => n - (intOf iv).toNat)
  case atStart => exact ⟨0, _, Nat.zero_le _, rfl, rfl, hI⟩
  case round =>
    obtain ⟨k, v, hk, rfl, rfl, HI⟩ := hrel
    clear hI
    by_cases hlt : k < n
    · have hka : k < a.length := by rw [HN.out]; exact hlt
      have hr2 := HA.out.below HI.out.2
      obtain ⟨ab, ao, rfl, hab⟩ := hr2.form (by rw [nums_len]; omega)
      have c0 := hr2.num hka
      have HT := Lib.hid (sing_take a k hka)
      have HL := Lib.hid (show (sing (a.take k)).length ≤ 1048576 by rw [sing_len, List.length_take]; omega)
      have HS := Lib.hid HI.out.2.size
      generalize a[k] = x at *
      clear hka hr2
      go_wp2_with (at_builtin; refine wpList_append_rd _ rfl (.tmp 27) (.tmp 31) _ rfl w0.heap.size 26 i0 _ 2 8 Try.underlying22 hi hz0 hz1 hz2 rfl (by decide) u5 (sing (a.take k)).length (rgs (sing (a.take k))) rfl (HI.out.1.alloc _) _ (some ⟨wr.heap.size, 0, none⟩) 1 1 (rgs [(x, x)]) rfl rfl (rd_new _ _ (rgs [(x, x)]) _ (by simp)) (rgs_one _) (by have := HL.out; unfold maxLen; omega) (by have := HL.out; omega) (by have := HS.out; simp; omega) ?_; intro v6 w6 hown6 hgr6 _; have HN6 := Lib.hid (show w6.ownsRow w0.heap.size 26 2 v6 (sing (a.take (k + 1))).length (rgs (sing (a.take (k + 1)))) ∧ Below w0.heap.size w0 w6 from ⟨by rw [HT.out, rgs_append, List.length_append]; exact hown6, HI.out.2.grown ((grownBy_alloc wr _ _).trans hgr6) HS.out (fun y hy => (HI.out.1.lt y hy).1)⟩); clear hown6 hgr6)
      go_roundw
      case rel => exact ⟨k + 1, _, by omega, by go_num, rfl, HN6⟩
      case measure => simp [intOf]; omega
    · obtain ⟨ho, hbl⟩ := HI.out
      rw [List.take_of_length_le (by rw [HN.out]; omega)] at ho
      obtain ⟨As, cs, hvs, _, _, hrs⟩ := own_form ho
      obtain ⟨q, hq⟩ : ∃ q, q = (sing a).length := ⟨_, rfl⟩
      rw [← hq] at hvs
      subst hvs
      have HSG := Lib.hid (show Arg wr As q (sing a) from ⟨hrs, hq.symm, sing_fit HFA.out, by rw [hq, sing_len, HN.out]; omega⟩)
      have HPI := Lib.hid (show PI w A B a b As q wr from ⟨HSG.out, (HA.out.below hbl).more hbl.size, (HBb.out.below hbl).more hbl.size, HB.out.trans (hbl.mono HB.out.size)⟩)
      clear ho hbl hrs hq HI HA HBb HB HSG
      go_wp2_with fail
      go_loopw [8, 36] (fun nv iv wr => ∃ k : Nat, k ≤ n ∧ iv = .int .i64 k ∧ nv = .int .i64 (freshF (a.take k)) ∧ Hid (PI w A B a b As q wr)) (fun _ iv _ => n - (intOf iv).toNat)
      case atStart => exact ⟨0, Nat.zero_le _, rfl, rfl, HPI⟩
      case round =>
        obtain ⟨k, hk, rfl, rfl, HP⟩ := hrel
        clear HPI
        by_cases hlt : k < n
        · have hka : k < a.length := by rw [HN.out]; exact hlt
          obtain ⟨ab, ao, rfl, hab⟩ := HP.out.rda.form (by rw [nums_len]; omega)
          have c0 := HP.out.rda.num hka
          have hsl := fun u => num_to ab ao n c k (by omega) hc (by omega) u
          have HFT := Lib.hid (freshF_take a k hka)
          have hfl : freshF (a.take k) ≤ 1048576 := by have := freshF_le (a.take k); rw [List.length_take] at this; omega
          generalize a[k] = r at *
          clear hka
          have w1 : IntKind.i64.wrap ((freshF (a.take k) : Int) + 1) = (freshF (a.take k) : Int) + 1 := IntWalk.i64_in _ (by omega)
          have w2 : ((freshF (a.take k) : Nat) : Int) + 1 = ((freshF (a.take k) + 1 : Nat) : Int) := by omega
          have W2 := Lib.hid w2
          clear w2
          generalize freshF (a.take k) = F at *
          have hstart : ∃ f : Bool, f = inR r := ⟨_, rfl⟩
          obtain ⟨f0, hf0⟩ := hstart
          have HF0 := Lib.hid hf0
          have hd : (decide (0 ≤ r) = true ∧ decide (r ≤ 1114111) = f0) ∨ (decide (0 ≤ r) = false ∧ f0 = false) := by
            rw [hf0, inR_dec]
            by_cases h0 : 0 ≤ r
            · left; rw [decide_eq_true h0]; simp
            · right; rw [decide_eq_false h0]; simp
          clear hf0
          have HIN : Hid (∀ j, j ≤ k → j ≤ n) := fun j h => by omega
          rcases hd with ⟨hd1, hd2⟩ | ⟨hd1, rfl⟩
          all_goals
            go_wp2_with fail
            go_loopw [11, 51] (fun fv jv wr => ∃ (j : Nat) (f : Bool), j ≤ k ∧ jv = .int .i64 j ∧ fv = .bool f ∧ Hid (f = (inR r && !isIn (a.take j) r)) ∧ Hid (PI w (some ⟨ab, ao, none⟩) B a b As q wr)) (fun _ jv _ => k - (intOf jv).toNat)
            case atStart => exact ⟨0, _, Nat.zero_le _, rfl, rfl, Lib.hid (by rw [← HF0.out]; simp [isIn]), HP⟩
            case round =>
              obtain ⟨j, f, hj, rfl, rfl, HF, HP2⟩ := hrel
              by_cases hjk : j < k
              · have hja : j < a.length := by rw [HN.out]; omega
                have hjn : j < n := by omega
                have c1 := HP2.out.rda.num hja
                have HIT := Lib.hid (isIn_take a r j hja)
                generalize a[j] = x at *
                clear hja
                obtain ⟨y, hy⟩ : ∃ y : Bool, (x != r) = y := ⟨_, rfl⟩
                have HY := Lib.hid (show (x == r) = !y by rw [← hy]; simp [bne])
                have HF2 := Lib.hid (show (f && y) = (inR r && !isIn (a.take (j + 1)) r) by rw [HIT.out, HF.out, HY.out]; cases inR r <;> cases isIn (a.take j) r <;> cases y <;> rfl)
                clear HF HIT
                cases f with
                | false =>
                  go_wp2_with fail
                  go_roundw
                  case rel => exact ⟨j + 1, false, by omega, by go_num, rfl, HF2, HP2⟩
                  case measure => simp [intOf]; omega
                | true =>
                  go_wp2_with fail
                  go_roundw
                  case rel => exact ⟨j + 1, y, by omega, by go_num, rfl, HF2, HP2⟩
                  case measure => simp [intOf]; omega
              · have hjk2 : j = k := by omega
                have HF2 := Lib.hid (hjk2 ▸ HF.out)
                clear hjk2 HF
                cases f with
                | false =>
                  have HE := Lib.hid (show freshF (a.take (k + 1)) = F by
                    rw [HFT.out, if_neg]; · rfl
                    · intro h; have := HF2.out; rw [h.1, h.2] at this; cases this)
                  go_wp2_with fail
                  go_roundw
                  case rel => exact ⟨k + 1, by omega, by go_num, by rw [HE.out], HP2⟩
                  case measure => simp [intOf]; omega
                | true =>
                  have HE := Lib.hid (show freshF (a.take (k + 1)) = F + 1 by
                    rw [HFT.out, if_pos]
                    have := HF2.out
                    cases h1 : inR r <;> cases h2 : isIn (a.take k) r <;> rw [h1, h2] at this <;> first | exact ⟨rfl, rfl⟩ | cases this)
                  go_wp2_with fail
                  go_roundw
                  case rel => exact ⟨k + 1, by omega, by go_num, by rw [HE.out, ← W2.out], HP2⟩
                  case measure => simp [intOf]; omega
        · have HFN := Lib.hid (show freshF (a.take k) = freshF a by rw [List.take_of_length_le (by rw [HN.out]; omega)])
          obtain ⟨F, hF⟩ : ∃ F, F = freshF (a.take k) := ⟨_, rfl⟩
          rw [← hF] at HFN ⊢
          clear hF
          obtain ⟨i1, hi1, hy0, hy1, hy2⟩ := info_parts infoI32
          have HLA := Lib.hid (show (nums a).length = n * 1 by rw [nums_len, HN.out, Nat.mul_one])
          have HLB := Lib.hid (show (nums b).length = m * 1 by rw [nums_len, HM.out, Nat.mul_one])
          obtain ⟨W3, hW3⟩ : ∃ W3, W3 = wr := ⟨_, rfl⟩
          rw [← hW3] at HP ⊢
          clear hW3
          have HO0 := Lib.hid (show (W3.alloc (.cells #[] 21)).ownsRow W3.heap.size 21 1 (.slice (some ⟨W3.heap.size, 0, none⟩) 0 0) 0 (nums []) from World.ownsRow_lit W3 #[] 0 (Nat.le_refl _) (by unfold maxLen; omega) rfl)
          go_wp2_with (first
            | (at_builtin; refine wpList_append_rd _ rfl (.tmp 66) (.tmp 67) _ rfl W3.heap.size 21 i1 _ 1 4 Try.underlying31 hi1 hy0 hy1 hy2 rfl (by decide) _ 0 (nums []) rfl HO0.out _ B m d (nums b) rfl HLB.out (HP.out.rdb.alloc (Nat.le_refl _) _) (nums_one _) (by unfold maxLen; omega) (by omega) (by simp) ?_; intro v4 w4 hown4 hgr4 _; have hb4 : Below W3.heap.size W3 w4 := ((Below.refl _ _).alloc (Nat.le_refl _) _).grown hgr4 (by simp) (fun y hy => (HO0.out.lt y hy).1); have HO4 := Lib.hid (show w4.ownsRow W3.heap.size 21 1 v4 (0 + m) (nums ([] ++ b)) from by rw [nums_append]; exact hown4); have HP4 := Lib.hid (HP.out.next hb4); have HB4 := Lib.hid hb4; clear hown4 hgr4 hb4)
            | (at_builtin; refine wpList_append_rd _ rfl (.tmp 68) (.tmp 69) _ rfl W3.heap.size 21 i1 _ 1 4 Try.underlying31 hi1 hy0 hy1 hy2 rfl (by decide) v4 (0 + m) (nums ([] ++ b)) rfl HO4.out _ A n c (nums a) rfl HLA.out HP4.out.rda (nums_one _) (by unfold maxLen; omega) (by omega) HB4.out.size ?_; intro v5 w5 hown5 hgr5 _; have hb5 : Below W3.heap.size W3 w5 := HB4.out.grown hgr5 HB4.out.size (fun y hy => (HO4.out.lt y hy).1); have HO5 := Lib.hid (show w5.ownsRow W3.heap.size 21 1 v5 (0 + m + n) (nums ([] ++ b ++ a)) from by rw [nums_append]; exact hown5); have HP5 := Lib.hid (HP.out.next hb5); clear hown5 hgr5 hb5; obtain ⟨A5, c5, hv5, _, _, hr5⟩ := own_form HO5.out; obtain ⟨p5, hp5⟩ : ∃ p5, p5 = 0 + m + n := ⟨_, rfl⟩; rw [← hp5] at hv5; subst hv5; have HR5 := Lib.hid hr5; have HP5E := Lib.hid hp5; clear hr5 hp5))
          obtain ⟨X, hX⟩ : ∃ X, X = [] ++ b ++ a := ⟨_, rfl⟩
          rw [← hX] at HR5
          have HXL := Lib.hid (show X.length = p5 by rw [hX, HP5E.out, List.length_append, List.length_append, HN.out, HM.out]; rfl)
          have hp5 : p5 ≤ 2097152 := by have := HP5E.out; omega
          clear hX HO0 HO4 HP4 HB4 HO5 HLA HLB
          go_loopw [72] (fun jv wr => ∃ j : Nat, j ≤ p5 ∧ jv = .int .i64 j ∧ Hid (PI w A B a b As q wr) ∧ Hid (Rd wr wr.heap.size A5 (nums X))) (fun jv _ => p5 - (intOf jv).toNat)
          case atStart => exact ⟨0, Nat.zero_le _, rfl, HP5, HR5⟩
          case round =>
            obtain ⟨j, hj, rfl, HP6, HR6⟩ := hrel
            clear HP HP5 HR5
            by_cases hjp : j < p5
            · have hjX : j < X.length := by rw [HXL.out]; exact hjp
              obtain ⟨xb, xo, rfl, hxb⟩ := HR6.out.form (by rw [nums_len]; omega)
              have cx := HR6.out.num hjX
              generalize X[j] = x at *
              clear hjX
              have hxx : ∃ rx : Bool, inR x = rx := ⟨_, rfl⟩
              obtain ⟨rx, hrx⟩ := hxx
              have HRX := Lib.hid hrx
              have hd : (decide (0 ≤ x) = true ∧ decide (x ≤ 1114111) = rx) ∨ (decide (0 ≤ x) = false ∧ rx = false) := by
                rw [← hrx, inR_dec]
                by_cases h0 : 0 ≤ x
                · left; rw [decide_eq_true h0]; simp
                · right; rw [decide_eq_false h0]; simp
              clear hrx
              rcases hd with ⟨hd1, hd2⟩ | ⟨hd1, hd2⟩
              · skip
                go_wp2_with fail
                go_loopw [16, 78] (fun fv iv wr => ∃ (i : Nat) (f : Bool), i ≤ n ∧ iv = .int .i64 i ∧ fv = .bool f ∧ Hid (f = (inR x && isIn (a.take i) x)) ∧ Hid (PI w A B a b As q wr) ∧ Hid (Rd wr wr.heap.size (some ⟨xb, xo, none⟩) (nums X))) (fun _ iv _ => n - (intOf iv).toNat)
                case atStart => exact ⟨0, false, Nat.zero_le _, rfl, rfl, Lib.hid (by simp [isIn]), HP6, HR6⟩
                case round =>
                  obtain ⟨i, f, hi2, rfl, rfl, HF, HP7, HR7⟩ := hrel
                  by_cases hin : i < n
                  · have hia : i < a.length := by rw [HN.out]; exact hin
                    obtain ⟨yb, yo, rfl, hyb⟩ := HP7.out.rda.form (by rw [nums_len]; omega)
                    have c2 := HP7.out.rda.num hia
                    have HIT := Lib.hid (isIn_take a x i hia)
                    generalize a[i] = z at *
                    clear hia
                    obtain ⟨y, hy⟩ : ∃ y : Bool, (z == x) = y := ⟨_, rfl⟩
                    have HF2 := Lib.hid (show (f || (y && rx)) = (inR x && isIn (a.take (i + 1)) x) by rw [HIT.out, HF.out, hy, HRX.out]; cases rx <;> cases isIn (a.take i) x <;> cases y <;> rfl)
                    clear HF HIT
                    cases f with
                    | true =>
                      go_wp2_with fail
                      go_roundw
                      case rel => exact ⟨i + 1, true, by omega, by go_num, rfl, HF2, HP7, HR7⟩
                      case measure => simp [intOf]; omega
                    | false =>
                      cases y with
                      | true =>
                        go_wp2_with fail
                        go_roundw
                        case rel => exact ⟨i + 1, rx, by omega, by go_num, by first | rfl | assumption, HF2, HP7, HR7⟩
                        case measure => simp [intOf]; omega
                      | false =>
                        go_wp2_with fail
                        go_roundw
                        case rel => exact ⟨i + 1, false, by omega, by go_num, rfl, HF2, HP7, HR7⟩
                        case measure => simp [intOf]; omega
                  · have HF3 := Lib.hid (show has (norm (sing a)) x = f by
                      have := HF.out
                      rw [List.take_of_length_le (by rw [HN.out]; omega)] at this
                      rw [has_sing, this])
                    clear HF HP6 HR6
                    go_wp2_with fail
                    refine (a_norm _ HP7.out.sg).mono ?_
                    rintro e w8 ⟨A8, n8, c8, rfl, h8, hb8⟩
                    have H8 := Lib.hid h8
                    replace HP7 := Lib.hid (HP7.out.next hb8)
                    replace HR7 := Lib.hid ((HR7.out.below hb8).more hb8.size)
                    clear h8 hb8
                    go_wp2_with fail
                    refine (a_has _ H8.out x HF3.out).mono ?_
                    rintro e w9 ⟨rfl, hb9⟩
                    replace HP7 := Lib.hid (HP7.out.next hb9)
                    replace HR7 := Lib.hid ((HR7.out.below hb9).more hb9.size)
                    clear hb9
                    go_wp2_with fail
                    go_roundw
                    case rel => exact ⟨j + 1, by omega, by go_num, HP7, HR7⟩
                    case measure => simp [intOf]; omega
              · subst hd2
                go_wp2_with fail
                go_loopw [16, 78] (fun fv iv wr => ∃ (i : Nat) (f : Bool), i ≤ n ∧ iv = .int .i64 i ∧ fv = .bool f ∧ Hid (f = (inR x && isIn (a.take i) x)) ∧ Hid (PI w A B a b As q wr) ∧ Hid (Rd wr wr.heap.size (some ⟨xb, xo, none⟩) (nums X))) (fun _ iv _ => n - (intOf iv).toNat)
                case atStart => exact ⟨0, false, Nat.zero_le _, rfl, rfl, Lib.hid (by simp [isIn]), HP6, HR6⟩
                case round =>
                  obtain ⟨i, f, hi2, rfl, rfl, HF, HP7, HR7⟩ := hrel
                  by_cases hin : i < n
                  · have hia : i < a.length := by rw [HN.out]; exact hin
                    obtain ⟨yb, yo, rfl, hyb⟩ := HP7.out.rda.form (by rw [nums_len]; omega)
                    have c2 := HP7.out.rda.num hia
                    have HIT := Lib.hid (isIn_take a x i hia)
                    generalize a[i] = z at *
                    clear hia
                    obtain ⟨y, hy⟩ : ∃ y : Bool, (z == x) = y := ⟨_, rfl⟩
                    have HF2 := Lib.hid (show (f || (y && false)) = (inR x && isIn (a.take (i + 1)) x) by rw [HIT.out, HF.out, hy, HRX.out]; cases isIn (a.take i) x <;> cases y <;> rfl)
                    clear HF HIT
                    cases f with
                    | true =>
                      go_wp2_with fail
                      go_roundw
                      case rel => exact ⟨i + 1, true, by omega, by go_num, rfl, HF2, HP7, HR7⟩
                      case measure => simp [intOf]; omega
                    | false =>
                      cases y with
                      | true =>
                        go_wp2_with fail
                        go_roundw
                        case rel => exact ⟨i + 1, false, by omega, by go_num, by first | rfl | assumption, HF2, HP7, HR7⟩
                        case measure => simp [intOf]; omega
                      | false =>
                        go_wp2_with fail
                        go_roundw
                        case rel => exact ⟨i + 1, false, by omega, by go_num, rfl, HF2, HP7, HR7⟩
                        case measure => simp [intOf]; omega
                  · have HF3 := Lib.hid (show has (norm (sing a)) x = f by
                      have := HF.out
                      rw [List.take_of_length_le (by rw [HN.out]; omega)] at this
                      rw [has_sing, this])
                    clear HF HP6 HR6
                    go_wp2_with fail
                    refine (a_norm _ HP7.out.sg).mono ?_
                    rintro e w8 ⟨A8, n8, c8, rfl, h8, hb8⟩
                    have H8 := Lib.hid h8
                    replace HP7 := Lib.hid (HP7.out.next hb8)
                    replace HR7 := Lib.hid ((HR7.out.below hb8).more hb8.size)
                    clear h8 hb8
                    go_wp2_with fail
                    refine (a_has _ H8.out x HF3.out).mono ?_
                    rintro e w9 ⟨rfl, hb9⟩
                    replace HP7 := Lib.hid (HP7.out.next hb9)
                    replace HR7 := Lib.hid ((HR7.out.below hb9).more hb9.size)
                    clear hb9
                    go_wp2_with fail
                    go_roundw
                    case rel => exact ⟨j + 1, by omega, by go_num, HP7, HR7⟩
                    case measure => simp [intOf]; omega
            · have hcn := HFN.out
              have HCN := Lib.hid (show cnt (norm (sing a)) = (F : Int) by rw [cnt_sing, hcn])
              clear hcn
              go_wp2_with fail
              refine (a_count _ HP6.out.sg HCN.out).mono ?_
              rintro e w8 ⟨rfl, hb8⟩
              have HB := Lib.hid (HP6.out.bel.trans (hb8.mono HP6.out.bel.size))
              clear hb8
              go_wp2_with fail
              go_ret
              exact ⟨rfl, HB.out⟩

theorem contract (H : Type) (enc : TypeId × Value → H) (W : World) (base : Nat) (args : Array Value) (ds gs : List (DataW H)) (before : List MemPlace)
    (hval : ∀ (j : Nat) t v, Try.f9.params[j]? = some t → args[j]? = some v → Value.okWide Try.prog W .any base t v)
    (hW : DataW.Whole enc Try.prog Try.f9.params.toList Rows.rsetPointsSpec.vars false W args.toList ds gs before) (hk : Rows.uptoSmall H (ds ++ gs) = true) :
    Calls Try.prog 9 args W fun e W' => ∃ v, e = .returned v ∧ Rows.rsetPointsSpec.post enc Try.prog Try.f9 false true false false W args v W' := by
  have hW' := hW
  obtain ⟨p, q, hA0, hV, rfl, hfz, hnd⟩ := hW
  have hA : DataW.TrodAll enc Try.prog W 0 (fun _ => true) true Try.f9.params.toList args.toList ds p := hA0
  rw [Try.params9] at hA hval
  obtain ⟨v0, vs0, d0, ds0, p0, q0, hargs, rfl, rfl, h0, r0⟩ := trodAll_cons hA
  obtain ⟨v1, vs1, d1, ds1, p1, q1, rfl, rfl, rfl, h1, r1⟩ := trodAll_cons r0
  obtain ⟨rfl, rfl, rfl⟩ := trodAll_nil r1
  obtain rfl : args = #[v0, v1] := by cases args; simp_all
  obtain ⟨rfl, rfl⟩ := trodVars_none hV
  obtain ⟨a0, len0, cap0, rfl⟩ := okWide_slice Try.underlying31 (hval 0 31 v0 rfl rfl)
  have k0 := h0
  have lt0 : ∀ x ∈ p0, x.block < W.heap.size := by obtain ⟨m, hm⟩ := k0; exact DataW.trod_lt m _ _ _ hm
  obtain ⟨l0, hl0, hc0, hm0, hf0, hr0, hb0⟩ := open_nums h0
  obtain ⟨a1, len1, cap1, rfl⟩ := okWide_slice Try.underlying31 (hval 1 31 v1 rfl rfl)
  have k1 := h1
  have lt1 : ∀ x ∈ p1, x.block < W.heap.size := by obtain ⟨m, hm⟩ := k1; exact DataW.trod_lt m _ _ _ hm
  obtain ⟨l1, hl1, hc1, hm1, hf1, hr1, hb1⟩ := open_nums h1
  have hbd := bulk_bound hk
  simp only [List.append_nil, Rows.uptoBulkAll] at hbd
  clear hA0
  refine (walk a0 a1 l0 l1 len0 len1 cap0 cap1 W hr0 hr1 hl0 hl1 hf0 hf1 hc0 (by omega) (by omega)).mono fun e W' ⟨he, bel⟩ => ?_
  subst he
  exact ⟨_, rfl, _, _, _, [], _, [], hW', trodAll_mk1 (shut_bool Try.underlying4 _), (trodAll_cons_mk (Below.trod laidOut (by kernel_rfl) (of_decide_eq_true (by kernel_rfl)) k0 bel lt0) (trodAll_cons_mk (Below.trod laidOut (by kernel_rfl) (of_decide_eq_true (by kernel_rfl)) k1 bel lt1) trodAll_mk0)), rfl, bel.frame _, fun h => by cases h⟩

set_option maxRecDepth 100000 in
theorem lifted (os : Os) (started : os.Started) (H : Type) (enc : TypeId × Value → H) (F : Stop.Interp) :
    ReturnsInHanded {} Try.checked os 9 .any ((Rows.OpenSpec.upto Rows.rsetPointsSpec).pre6 enc Try.prog Try.f9 Rows.rsetPointsUptoRow.domain false) (((Rows.OpenSpec.upto Rows.rsetPointsSpec).at F).post enc Try.prog Try.f9 false true false false) := by
  refine returnsInHanded_of_cond (C := Try.checked) (s := Rows.OpenSpec.upto Rows.rsetPointsSpec) (k := Rows.uptoSmall) rfl own started (by kernel_rfl) Try.func9
    (OpenSpec.witness (enc := enc) (C := Try.checked) (s := Rows.OpenSpec.upto Rows.rsetPointsSpec) (k := Rows.uptoSmall) rfl false ⟨#[], #[.slice none 0 0, .slice none 0 0], []⟩ 8 (by kernel_rfl) (by kernel_rfl) (by kernel_rfl)
      (x := ([.nil, .nil], [], [])) (by kernel_rfl) rfl (by kernel_rfl)) ?_
  intro W base args ds gs before hval hW _ hk _
  exact contract H enc W base args ds gs before hval hW hk

/-- THE STATEMENT -/
theorem proved : Rows.RsetPointsUptoSaid :=
  OpenClaim.holds_of_cond 9 Try.f9 rfl rfl rfl rfl rfl rfl rfl ⟨rfl, rfl, rfl, rfl, rfl⟩ rfl rfl rfl rfl rfl (by kernel_rfl) Try.func9 (by kernel_rfl)
    (of_decide_eq_true (by kernel_rfl)) (by unfold Func.isWrapper; first | (rw [if_pos (by decide +kernel)]; kernel_rfl) | (rw [if_neg (by decide +kernel)]; exact ⟨rfl, rfl⟩))
    (fun os started H enc _ F => lifted os started H enc F)
end Go.Proofs.Ytldcjeljdmjneaa.LawRsetPoints
