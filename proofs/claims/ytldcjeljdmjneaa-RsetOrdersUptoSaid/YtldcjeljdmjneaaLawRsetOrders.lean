/-
  Whatever ranges there are: neither their order matters, nor how often they stand, nor how they are cut. Conditions: the arguments hold together at most 1048576 values.
-/
import Derived.Test.YtldcjeljdmjneaaRsetFixed
import Derived.Laws.OwnMore
import Derived.OrdersHeld
import Derived.Deep.RegionHeld3
import Derived.Deep.DeepCutAuto
namespace Go.Proofs.Ytldcjeljdmjneaa.LawRsetOrders
open Go.ChangeShapes Go.WideShapes Go.ChangeAt Go.RowKit
open Utf (Rd Blk nums nums_len nums_append nums_one nums_get wpList_append_rd own_ne)
open Rset
set_option maxRecDepth 100000

theorem i64_bounds {n : Int} (h : (Lit.int .i64 n).wf = true) : -9223372036854775808 ≤ n ∧ n ≤ 9223372036854775807 := by simpa [Lit.wf, IntKind.min, IntKind.max, IntKind.signed, IntKind.bits] using h

/-! ### three appends in a region that draws its order -/
theorem step_append_rd {P : Program} {w : World} {ops : Array Oper} {o : Oper} {a : Act} {K : Act → World → Prop} {Q : Exit → Act → World → Prop} {E : Prop} (hgd : o.guard = none) (s x : Operand) (t : TypeId)
    (ho : o.op = .call { callee := .builtin .append, args := #[s, x], argTypes := #[t, t] })
    (base : Nat) (e : TypeId) (i : TypeInfo) (z : Value) (size bytes : Nat) (ht : P.underlying t = some (.slice e)) (hi : P.info? e = some i) (hz : i.zero = some z)
    (hsize : i.size = size) (hby : i.bytes = bytes) (hzs : z.cells.size = size) (hsz : 0 < size)
    (v : Value) (n : Nat) (xs : List Value) (hs : a.eval s = v) (hown : w.ownsRow base e size v n xs)
    (B : Nat) (A : Option Addr) (m c : Nat) (news : List Value) (hx : a.eval x = .slice A m c) (hl : news.length = m * size) (hr : Rd w B A news) (h1 : ∀ u ∈ news, u.oneCell' = true)
    (h63 : n + m ≤ maxLen) (hbytes : (n + m) * bytes ≤ 140737488355328) (hbase : base ≤ w.heap.size)
    (h : ∀ v' w', w'.ownsRow base e size v' (n + m) (xs ++ news) → w.grownBy w' v.ownBlock → (v'.ownBlock = v.ownBlock ∨ v'.ownBlock = some w.heap.size) → K (a.put o.dst v') w') :
    if Region.wanted o (yielded ops a.tmps) = true then Oper.wp P o a w K Q else E := by
  have hw : Region.wanted o (yielded ops a.tmps) = true := by simp [Region.wanted, hgd]
  rw [if_pos hw]
  exact Utf.wp_append_rd w s x t ho base e i z size bytes ht hi hz hsize hby hzs hsz v n xs hs hown B A m c news hx hl hr h1 h63 hbytes hbase h
/-- ahead of the list: the literal not yet laid, or laid at g -/
def Q1 (w W : World) : Prop := Below w.heap.size w W
structure Q2 (w W : World) (g : Nat) (x : Rg) : Prop where
  bel : Below w.heap.size w W
  lit : Rd W (g + 1) (some ⟨g, 0, none⟩) (rgs [x])
  ge : w.heap.size ≤ g
  lt : g < W.heap.size
structure P1 (w W : World) (v : Value) (k : Nat) (L : List Rg) : Prop where
  own : W.ownsRow w.heap.size 26 2 v k (rgs L)
  bel : Below w.heap.size w W
structure P2 (w W : World) (v : Value) (k : Nat) (L : List Rg) (g : Nat) (x : Rg) : Prop where
  own : W.ownsRow w.heap.size 26 2 v k (rgs L)
  q : Q2 w W g x
  ne : ∀ k, v.ownBlock = some k → k ≠ g
section
variable {w W W' : World} {v v' : Value} {k m : Nat} {L M : List Rg} {g : Nat} {x : Rg}
theorem Q1.zero (h : Q1 w W) {g0 : Nat} (hg : g0 = W.heap.size) : P1 w (W.alloc (.cells #[] 26)) (.slice (some ⟨g0, 0, none⟩) 0 0) 0 [] := by
  subst hg
  exact ⟨World.ownsRow_lit W #[] 0 h.size (by unfold maxLen; omega) rfl, h.alloc h.size _⟩
theorem Q1.lay (h : Q1 w W) (x1 x2 : Int) : Q2 w (W.alloc (.cells #[.int .i32 x1, .int .i32 x2] 26)) W.heap.size (x1, x2) :=
  ⟨h.alloc h.size _, rd_new W _ (rgs [(x1, x2)]) _ rfl, h.size, by simp⟩
theorem Q2.zero (h : Q2 w W g x) {g0 : Nat} (hg : g0 = W.heap.size) : P2 w (W.alloc (.cells #[] 26)) (.slice (some ⟨g0, 0, none⟩) 0 0) 0 [] g x := by
  subst hg
  exact ⟨World.ownsRow_lit W #[] 0 h.bel.size (by unfold maxLen; omega) rfl, ⟨h.bel.alloc h.bel.size _, h.lit.alloc h.lt _, h.ge, by have := h.lt; simp; omega⟩, fun k hk => by have e : W.heap.size = k := Option.some.inj hk; have := h.lt; omega⟩
theorem P1.lay (h : P1 w W v k L) (x1 x2 : Int) : P2 w (W.alloc (.cells #[.int .i32 x1, .int .i32 x2] 26)) v k L W.heap.size (x1, x2) :=
  ⟨h.own.alloc _, ⟨h.bel.alloc h.bel.size _, rd_new W _ (rgs [(x1, x2)]) _ rfl, h.bel.size, by simp⟩, fun k hk => by have := (h.own.lt k hk).2; omega⟩
theorem P1.app (h : P1 w W v k L) (hg : W.grownBy W' v.ownBlock) (ho : W'.ownsRow w.heap.size 26 2 v' (k + m) (rgs L ++ rgs M)) : P1 w W' v' (k + m) (L ++ M) :=
  ⟨by rw [rgs_append]; exact ho, h.bel.grown hg h.bel.size (fun y hy => (h.own.lt y hy).1)⟩
theorem P2.app (h : P2 w W v k L g x) (hg : W.grownBy W' v.ownBlock) (ho : W'.ownsRow w.heap.size 26 2 v' (k + m) (rgs L ++ rgs M)) (hat : v'.ownBlock = v.ownBlock ∨ v'.ownBlock = some W.heap.size) : P2 w W' v' (k + m) (L ++ M) g x :=
  ⟨by rw [rgs_append]; exact ho, ⟨h.q.bel.grown hg h.q.bel.size (fun y hy => (h.own.lt y hy).1), fun hne => by
      obtain ⟨b, o, e, hb, hc⟩ := h.q.lit hne
      injection e with e; injection e with e1 e2
      subst e1 e2
      exact ⟨_, _, rfl, hb, fun j u hu => (World.cell?_of_block (hg.block _ h.q.lt (fun e => h.ne _ e.symm rfl))).trans (hc j u hu)⟩, h.q.ge, Nat.lt_of_lt_of_le h.q.lt hg.size⟩,
    fun y hy => by
      rcases hat with h1 | h1
      · exact h.ne y (h1 ▸ hy)
      · rw [h1] at hy; injection hy with hy; have := h.q.lt; omega⟩
end
/-! ### cut in pieces -/
def pc (cut : Int) (r : Rg) : List Rg := if r.1 ≤ cut ∧ cut < r.2 then [(cut + 1, r.2), (r.1, cut)] else [r]
def pcs (cut : Int) (l : List Rg) : List Rg := l.flatMap (pc cut)
theorem pcs_take (cut : Int) (l : List Rg) (k : Nat) (hk : k < l.length) : pcs cut (l.take (k + 1)) = pcs cut (l.take k) ++ pc cut l[k] := by
  rw [List.take_succ_eq_append_getElem hk]; unfold pcs; rw [List.flatMap_append, List.flatMap_singleton]
theorem pc_len (cut : Int) (r : Rg) : (pc cut r).length ≤ 2 := by unfold pc; split <;> simp
theorem pcs_len (cut : Int) (l : List Rg) : (pcs cut l).length ≤ 2 * l.length := by
  induction l with
  | nil => exact Nat.le_refl _
  | cons r t ih => have := pc_len cut r; have e : pcs cut (r :: t) = pc cut r ++ pcs cut t := rfl; rw [e, List.length_append, List.length_cons]; omega
theorem pc_any (cut : Int) (r : Rg) (x : Int) : anyIn (pc cut r) x = inn r x := by
  unfold pc
  split
  · rw [Bool.eq_iff_iff, any2, inn_iff]; omega
  · exact anyIn_one r x
theorem pcs_any (cut : Int) (l : List Rg) (x : Int) : anyIn (pcs cut l) x = anyIn l x := by
  induction l with
  | nil => rfl
  | cons r t ih => have e : pcs cut (r :: t) = pc cut r ++ pcs cut t := rfl; rw [e, anyIn_append, pc_any, ih, anyIn_cons]
theorem pcs_norm (cut : Int) (l : List Rg) : norm (pcs cut l) = norm l := norm_eq fun x _ => by unfold has; rw [pcs_any]
theorem pcs_fit {cut : Int} (hc : -2147483648 ≤ cut ∧ cut ≤ 2147483647) {l : List Rg} (h : Fit l) : Fit (pcs cut l) := fun q hq => by
  obtain ⟨r, hr, hq⟩ := List.mem_flatMap.1 hq
  have hr := h r hr
  unfold pc at hq
  split at hq
  · rename_i h2
    rcases List.mem_cons.1 hq with rfl | hq
    · simp only []; omega
    · rw [List.mem_singleton.1 hq]; simp only []; omega
  · rw [List.mem_singleton.1 hq]; exact hr
theorem turn_norm (a : List Rg) (t : Nat) (x : Rg) (hx : a[t]? = some x) : norm (a.drop t ++ a.take t ++ [x]) = norm a := norm_eq fun y _ => by
  have hm : x ∈ a := List.mem_of_getElem? hx
  have h1 : anyIn a y = (anyIn (a.take t) y || anyIn (a.drop t) y) := by rw [← anyIn_append, List.take_append_drop]
  have h2 : inn x y = true → anyIn a y = true := fun h => anyIn_iff.2 ⟨x, hm, inn_iff.1 h⟩
  unfold has
  congr 1
  rw [anyIn_append, anyIn_append, anyIn_one]
  cases hi : inn x y with
  | true => rw [h2 hi, Bool.or_true]
  | false => rw [Bool.or_false, h1, Bool.or_comm]
theorem turn_fit {a : List Rg} (h : Fit a) (t : Nat) (x : Rg) (hx : a[t]? = some x) : Fit (a.drop t ++ a.take t ++ [x]) := fun q hq => by
  rcases List.mem_append.1 hq with hq | hq
  · rcases List.mem_append.1 hq with hq | hq
    · exact h q (List.mem_of_mem_drop hq)
    · exact h q (List.mem_of_mem_take hq)
  · rw [List.mem_singleton.1 hq]; exact h x (List.mem_of_getElem? hx)

/-- what the three appends leave -/
def Turned (w : World) (n : Nat) (L : List Rg) (v : Value) (W : World) : Prop := W.ownsRow w.heap.size 26 2 v (n + 1) (rgs L) ∧ Below w.heap.size w W

set_option maxHeartbeats 16000000 in
theorem walk (A : Option Addr) (a : List Rg) (n c : Nat) (z cut : Int) (w : World) (hA : Arg w A n a) (hc : n ≤ c) (hcm : c ≤ 9223372036854775807) (_hz : -9223372036854775808 ≤ z ∧ z ≤ 9223372036854775807) (hcut : -2147483648 ≤ cut ∧ cut ≤ 2147483647) (hsm : n ≤ 1048576) :
    Calls Try.prog 8 #[.slice A n c, .int .i64 z, .int .i32 cut] w (Law w) := by
  obtain ⟨i0, hi, hz0, hz1, hz2⟩ := info_parts infoRg
  have HA := Lib.hid hA
  have HB := Lib.hid (Below.refl w.heap.size w)
  clear hA
  go_enter Try.func8, Try.ntmps8
  go_wp2_with fail
  refine (fixed_any _).mono ?_
  rintro e w_0 ⟨rfl, hb_0⟩
  replace HA := Lib.hid (HA.out.next hb_0)
  replace HB := Lib.hid (HB.out.trans (hb_0.mono HB.out.size))
  clear hb_0
  go_wp2_with fail
  refine (a_norm _ HA.out).mono ?_
  rintro e w_1 ⟨A_1, n_1, c_1, rfl, h_1, hb_1⟩
  have HW := Lib.hid h_1
  replace HA := Lib.hid (HA.out.next hb_1)
  replace HB := Lib.hid (HB.out.trans (hb_1.mono HB.out.size))
  clear h_1 hb_1
  by_cases hn0 : n = 0
  · subst hn0
    have ha : a = [] := List.eq_nil_of_length_eq_zero HA.out.len
    have h0 : n_1 = 0 := by rw [← HW.out.len, ha, norm_id Nm.nil]; rfl
    subst h0
    clear ha
    go_wp2_with fail
    go_ret
    exact ⟨rfl, HB.out⟩
  · have hne : ((n : Int) == 0) = false := by simp; omega
    obtain ⟨t, ht⟩ : ∃ t : Nat, (IntKind.u64.wrap z).tmod (n : Int) = (t : Int) ∧ t < n := by
      have hu : 0 ≤ IntKind.u64.wrap z := by simp [IntKind.wrap, IntKind.bits, IntKind.signed]; omega
      have h1 : (IntKind.u64.wrap z).tmod (n : Int) = IntKind.u64.wrap z % (n : Int) := Int.tmod_eq_emod_of_nonneg hu
      have h2 := Int.emod_nonneg (IntKind.u64.wrap z) (show (n : Int) ≠ 0 by omega)
      have h3 := Int.emod_lt_of_pos (IntKind.u64.wrap z) (show (0 : Int) < n by omega)
      refine ⟨(IntKind.u64.wrap z % (n : Int)).toNat, ?_, ?_⟩
      · rw [h1]; omega
      · omega
    obtain ⟨hmod, htn⟩ := ht
    have htl : t < a.length := by rw [HA.out.len]; exact htn
    obtain ⟨b, o, rfl, hbl⟩ := rd_form_rg HA.out.rd (by omega)
    obtain ⟨d1, d2⟩ := rd_rg HA.out.rd htl
    have hsF := fun u => arg_from b o n c t htn hc u
    have hsT := fun u => arg_to b o n c t (by omega) hc (by omega) u
    have HLD := Lib.hid (show (rgs (a.drop t)).length = (n - t) * 2 by rw [rgs_len, List.length_drop, HA.out.len])
    have HLT := Lib.hid (show (rgs (a.take t)).length = t * 2 by rw [rgs_len, List.length_take, HA.out.len, Nat.min_eq_left (by omega)])
    have HRD := Lib.hid (fun (u : World) (hu : Below w_1.heap.size w_1 u) => show Rd u w_1.heap.size (some ⟨b, o + t * 2, none⟩) (rgs (a.drop t)) from (HA.out.rd.below hu).drop_ (t * 2) |> fun r => by rwa [rgs_drop] at r)
    have HRT := Lib.hid (fun (u : World) (hu : Below w_1.heap.size w_1 u) => show Rd u w_1.heap.size (some ⟨b, o, none⟩) (rgs (a.take t)) from (HA.out.rd.below hu).take_ (t * 2) |> fun r => by rwa [rgs_take] at r)
    have HQ0 : Hid (Q1 w_1 w_1.drew) := below_drewN (Below.refl _ _) 1
    have HXT := Lib.hid (show ∃ x : Rg, x = a[t] from ⟨_, rfl⟩)
    obtain ⟨x, hx⟩ : ∃ x, x = a[t] := ⟨_, rfl⟩
    rw [← hx] at d1 d2
    have HX := Lib.hid (show a[t]? = some x by rw [hx]; exact List.getElem?_eq_getElem htl)
    clear hx HXT htl
    obtain ⟨x1, x2⟩ := x
    dsimp only at d1 d2
    have HCE := Lib.hid (fun (u : World) (hu : Below w_1.heap.size w_1 u) => show u.cell? ⟨b, o + t * 2, none⟩ = some (.int .i32 x1) ∧ u.cell? ⟨b, o + t * 2 + 1, none⟩ = some (.int .i32 x2) from ⟨(hu.cell (p := ⟨b, o + t * 2, none⟩) hbl).trans d1, (hu.cell (p := ⟨b, o + t * 2 + 1, none⟩) hbl).trans d2⟩)
    go_wp2_with fail
    go_cut [9] (fun v W => ∃ v' : Value, v = v' ∧ Hid (Turned w_1 n (a.drop t ++ a.take t ++ [(x1, x2)]) v' W))
    case first =>
      refine wp_region_held_drew (S := fun u => u.cell? ⟨b, o + t * 2, none⟩ = some (.int .i32 x1) ∧ u.cell? ⟨b, o + t * 2 + 1, none⟩ = some (.int .i32 x2)) (by kernel_rfl) ⟨d1, d2⟩ (fun hHeld => ?_)
      generalize w_1.drew = wd at HQ0 hHeld ⊢
      refine wpAnyH_take (i := 1) (oi := _) (v := ?_) rfl (by kernel_rfl) (by kernel_rfl) (by kernel_rfl) (fun _ _ _ h => h) (Or.inl ⟨by rfl, ?_⟩) (by assumption) ?_
      rotate_left
      · (intro w hSw; (try dsimp only at hSw); (try obtain ⟨s1_, s2_⟩ := hSw); go_simp <;> with_reducible rfl)
      simp only [List.getElem_toArray, List.getElem_cons_succ, List.getElem_cons_zero, Act.put, List.setIfInBounds_toArray, List.set_cons_zero, List.set_cons_succ]
      refine wpAnyH_take (i := 2) (oi := _) (v := ?_) rfl (by kernel_rfl) (by kernel_rfl) (by kernel_rfl) (fun _ _ _ h => h) (Or.inl ⟨by rfl, ?_⟩) (by assumption) ?_
      rotate_left
      · (intro w hSw; (try dsimp only at hSw); (try obtain ⟨s1_, s2_⟩ := hSw); go_simp <;> with_reducible rfl)
      simp only [List.getElem_toArray, List.getElem_cons_succ, List.getElem_cons_zero, Act.put, List.setIfInBounds_toArray, List.set_cons_zero, List.set_cons_succ]
      refine wpAnyH_take (i := 3) (oi := _) (v := ?_) rfl (by kernel_rfl) (by kernel_rfl) (by kernel_rfl) (fun _ _ _ h => h) (Or.inl ⟨by rfl, ?_⟩) (by assumption) ?_
      rotate_left
      · (intro w hSw; (try dsimp only at hSw); (try obtain ⟨s1_, s2_⟩ := hSw); go_simp <;> with_reducible rfl)
      simp only [List.getElem_toArray, List.getElem_cons_succ, List.getElem_cons_zero, Act.put, List.setIfInBounds_toArray, List.set_cons_zero, List.set_cons_succ]
      refine wpAnyH_take (i := 5) (oi := _) (v := ?_) rfl (by kernel_rfl) (by kernel_rfl) (by kernel_rfl) (fun _ _ _ h => h) (Or.inl ⟨by rfl, ?_⟩) (by assumption) ?_
      rotate_left
      · (intro w hSw; (try dsimp only at hSw); (try obtain ⟨s1_, s2_⟩ := hSw); go_simp <;> with_reducible rfl)
      simp only [List.getElem_toArray, List.getElem_cons_succ, List.getElem_cons_zero, Act.put, List.setIfInBounds_toArray, List.set_cons_zero, List.set_cons_succ]
      refine wpAnyH_take (i := 6) (oi := _) (v := ?_) rfl (by kernel_rfl) (by kernel_rfl) (by kernel_rfl) (fun _ _ _ h => h) (Or.inl ⟨by rfl, ?_⟩) (by assumption) ?_
      rotate_left
      · (intro w hSw; (try dsimp only at hSw); (try obtain ⟨s1_, s2_⟩ := hSw); go_simp <;> with_reducible rfl)
      simp only [List.getElem_toArray, List.getElem_cons_succ, List.getElem_cons_zero, Act.put, List.setIfInBounds_toArray, List.set_cons_zero, List.set_cons_succ]
      refine wpAnyH_take (i := 7) (oi := _) (v := ?_) rfl (by kernel_rfl) (by kernel_rfl) (by kernel_rfl) (fun _ _ _ h => h) (Or.inl ⟨by rfl, ?_⟩) (by assumption) ?_
      rotate_left
      · (intro w hSw; (try dsimp only at hSw); (try obtain ⟨s1_, s2_⟩ := hSw); go_simp <;> with_reducible rfl)
      simp only [List.getElem_toArray, List.getElem_cons_succ, List.getElem_cons_zero, Act.put, List.setIfInBounds_toArray, List.set_cons_zero, List.set_cons_succ]
      refine wpAnyH_take (i := 9) (oi := _) (v := ?_) rfl (by kernel_rfl) (by kernel_rfl) (by kernel_rfl) (fun _ _ _ h => h) (Or.inl ⟨by rfl, ?_⟩) (by assumption) ?_
      rotate_left
      · (intro w hSw; (try dsimp only at hSw); (try obtain ⟨s1_, s2_⟩ := hSw); go_simp <;> with_reducible rfl)
      simp only [List.getElem_toArray, List.getElem_cons_succ, List.getElem_cons_zero, Act.put, List.setIfInBounds_toArray, List.set_cons_zero, List.set_cons_succ]
      refine wpAnyH_take (i := 10) (oi := _) (v := ?_) rfl (by kernel_rfl) (by kernel_rfl) (by kernel_rfl) (fun _ _ _ h => h) (Or.inl ⟨by rfl, ?_⟩) (by assumption) ?_
      rotate_left
      · (intro w hSw; (try dsimp only at hSw); (try obtain ⟨s1_, s2_⟩ := hSw); go_simp <;> with_reducible rfl)
      simp only [List.getElem_toArray, List.getElem_cons_succ, List.getElem_cons_zero, Act.put, List.setIfInBounds_toArray, List.set_cons_zero, List.set_cons_succ]
      refine wpAnyH_take (i := 11) (oi := _) (v := ?_) rfl (by kernel_rfl) (by kernel_rfl) (by kernel_rfl) (fun _ _ _ h => h) (Or.inl ⟨by rfl, ?_⟩) (by assumption) ?_
      rotate_left
      · (intro w hSw; (try dsimp only at hSw); (try obtain ⟨s1_, s2_⟩ := hSw); go_simp <;> with_reducible rfl)
      simp only [List.getElem_toArray, List.getElem_cons_succ, List.getElem_cons_zero, Act.put, List.setIfInBounds_toArray, List.set_cons_zero, List.set_cons_succ]
      refine wpAnyH_take (i := 12) (oi := _) (v := ?_) rfl (by kernel_rfl) (by kernel_rfl) (by kernel_rfl) (fun _ _ _ h => h) (Or.inl ⟨by rfl, ?_⟩) (by assumption) ?_
      rotate_left
      · (intro w hSw; (try dsimp only at hSw); (try obtain ⟨s1_, s2_⟩ := hSw); go_simp <;> with_reducible rfl)
      simp only [List.getElem_toArray, List.getElem_cons_succ, List.getElem_cons_zero, Act.put, List.setIfInBounds_toArray, List.set_cons_zero, List.set_cons_succ]
      refine wpAnyH_ready (rs := [0, 13]) (by kernel_rfl) (by simp) (AllReadyH.cons rfl (fun K hK => ?_) (AllReadyH.cons rfl (fun K hK => ?_) AllReadyH.nil))
      · go_simp
        have H1 := Lib.hid (HQ0.out.zero (show _ = _ from rfl))
        obtain ⟨W1, hW1⟩ : ∃ W1, W1 = World.alloc wd (.cells #[] 26) := ⟨_, rfl⟩
        have hb1 : Below w_1.heap.size w_1 (World.alloc wd (.cells #[] 26)) := H1.out.bel
        refine hK.out _ _ (HCE.out _ hb1) (fun hHeld2 => ?_)
        rw [← hW1] at H1 hHeld2 hb1 ⊢
        clear hK K hHeld hW1
        have hHeld := hHeld2
        clear hHeld2
        refine wpAnyH_ready (rs := [4, 13]) (by kernel_rfl) (by simp) (AllReadyH.cons rfl (fun K hK => ?_) (AllReadyH.cons rfl (fun K hK => ?_) AllReadyH.nil))
        · refine step_append_rd (by rfl) (.tmp 30) (.tmp 33) _ (by rfl) w_1.heap.size 26 i0 _ 2 8 Try.underlying22 hi hz0 hz1 hz2 rfl (by decide) _ 0 (rgs []) (by rfl) H1.out.own _ (some ⟨b, o + t * 2, none⟩) (n - t) (c - t) (rgs (a.drop t)) (by rfl) HLD.out (HRD.out _ H1.out.bel) (rgs_one _) (by unfold maxLen; omega) (by omega) H1.out.bel.size ?_
          intro v2 w2 ho2 hg2 ha2
          have H2 := Lib.hid (H1.out.app (M := (a.drop t)) hg2 ho2)
          have hb2 : Below w_1.heap.size w_1 w2 := H2.out.bel
          refine hK.out _ _ (HCE.out _ hb2) (fun hHeld2 => ?_)
          clear hK K hHeld ho2 hg2 ha2
          have hHeld := hHeld2
          clear hHeld2
          refine wpAnyH_ready (rs := [8, 13]) (by kernel_rfl) (by simp) (AllReadyH.cons rfl (fun K hK => ?_) (AllReadyH.cons rfl (fun K hK => ?_) AllReadyH.nil))
          · refine step_append_rd (by rfl) (.tmp 34) (.tmp 37) _ (by rfl) w_1.heap.size 26 i0 _ 2 8 Try.underlying22 hi hz0 hz1 hz2 rfl (by decide) v2 (0 + (n - t)) (rgs ([] ++ a.drop t)) (by rfl) H2.out.own _ (some ⟨b, o, none⟩) t c (rgs (a.take t)) (by rfl) HLT.out (HRT.out _ H2.out.bel) (rgs_one _) (by unfold maxLen; omega) (by omega) H2.out.bel.size ?_
            intro v3 w3 ho3 hg3 ha3
            have H3 := Lib.hid (H2.out.app (M := (a.take t)) hg3 ho3)
            have hb3 : Below w_1.heap.size w_1 w3 := H3.out.bel
            refine hK.out _ _ (HCE.out _ hb3) (fun hHeld2 => ?_)
            clear hK K hHeld ho3 hg3 ha3
            have hHeld := hHeld2
            clear hHeld2
            refine wpAnyH_ready (rs := [13]) (by kernel_rfl) (by simp) (AllReadyH.cons rfl (fun K hK => ?_) AllReadyH.nil)
            go_simp
            have H4 := Lib.hid (H3.out.lay x1 x2)
            obtain ⟨W4, hW4⟩ : ∃ W4, W4 = World.alloc w3 (.cells #[.int .i32 x1, .int .i32 x2] 26) := ⟨_, rfl⟩
            have hb4 : Below w_1.heap.size w_1 (World.alloc w3 (.cells #[.int .i32 x1, .int .i32 x2] 26)) := H4.out.q.bel
            refine hK.out _ _ (HCE.out _ hb4) (fun hHeld2 => ?_)
            rw [← hW4] at H4 hHeld2 hb4 ⊢
            clear hK K hHeld hW4
            have hHeld := hHeld2
            clear hHeld2
            refine wpAnyH_ready (rs := [14]) (by kernel_rfl) (by simp) (AllReadyH.cons rfl (fun K hK => ?_) AllReadyH.nil)
            refine step_append_rd (by rfl) (.tmp 38) (.tmp 43) _ (by rfl) w_1.heap.size 26 i0 _ 2 8 Try.underlying22 hi hz0 hz1 hz2 rfl (by decide) v3 (0 + (n - t) + t) (rgs ([] ++ a.drop t ++ a.take t)) (by rfl) H4.out.own _ (some ⟨_, 0, none⟩) 1 1 (rgs [(x1, x2)]) (by rfl) rfl H4.out.q.lit (rgs_one _) (by unfold maxLen; omega) (by omega) H4.out.q.bel.size ?_
            intro v9 w9 ho9 hg9 ha9
            have H9 := Lib.hid (H4.out.app (M := [(x1, x2)]) hg9 ho9 ha9)
            have hb9 : Below w_1.heap.size w_1 w9 := H9.out.q.bel
            refine hK.out _ _ (HCE.out _ hb9) (fun hHeld2 => ?_)
            clear hK K hHeld
            have hHeld := hHeld2
            clear hHeld2 ho9 hg9 ha9
            refine wpAnyH_take (i := 15) (oi := _) (v := ?_) rfl (by kernel_rfl) (by kernel_rfl) (by kernel_rfl) (fun _ _ _ h => h) (Or.inl ⟨by rfl, ?_⟩) (by assumption) ?_
            rotate_left
            · (intro w hSw; (try dsimp only at hSw); (try obtain ⟨s1_, s2_⟩ := hSw); go_simp <;> with_reducible rfl)
            simp only [List.getElem_toArray, List.getElem_cons_succ, List.getElem_cons_zero, Act.put, List.setIfInBounds_toArray, List.set_cons_zero, List.set_cons_succ]
            refine wpAnyH_done (by kernel_rfl) ?_ _
            have HT9 : Hid (Turned w_1 n (a.drop t ++ a.take t ++ [(x1, x2)]) v9 w9) := by
              have h := H9.out.own
              rw [show 0 + (n - t) + t + 1 = n + 1 by omega, List.nil_append] at h
              exact ⟨h, hb9⟩
            clear H9 hb9
            go_wp2_with fail
            go_meet
            exact ⟨_, rfl, HT9⟩
          · go_simp
            have H5 := Lib.hid (H2.out.lay x1 x2)
            obtain ⟨W5, hW5⟩ : ∃ W5, W5 = World.alloc w2 (.cells #[.int .i32 x1, .int .i32 x2] 26) := ⟨_, rfl⟩
            have hb5 : Below w_1.heap.size w_1 (World.alloc w2 (.cells #[.int .i32 x1, .int .i32 x2] 26)) := H5.out.q.bel
            refine hK.out _ _ (HCE.out _ hb5) (fun hHeld2 => ?_)
            rw [← hW5] at H5 hHeld2 hb5 ⊢
            clear hK K hHeld hW5
            have hHeld := hHeld2
            clear hHeld2
            refine wpAnyH_ready (rs := [8]) (by kernel_rfl) (by simp) (AllReadyH.cons rfl (fun K hK => ?_) AllReadyH.nil)
            refine step_append_rd (by rfl) (.tmp 34) (.tmp 37) _ (by rfl) w_1.heap.size 26 i0 _ 2 8 Try.underlying22 hi hz0 hz1 hz2 rfl (by decide) v2 (0 + (n - t)) (rgs ([] ++ a.drop t)) (by rfl) H5.out.own _ (some ⟨b, o, none⟩) t c (rgs (a.take t)) (by rfl) HLT.out (HRT.out _ H5.out.q.bel) (rgs_one _) (by unfold maxLen; omega) (by omega) H5.out.q.bel.size ?_
            intro v6 w6 ho6 hg6 ha6
            have H6 := Lib.hid (H5.out.app (M := (a.take t)) hg6 ho6 ha6)
            have hb6 : Below w_1.heap.size w_1 w6 := H6.out.q.bel
            refine hK.out _ _ (HCE.out _ hb6) (fun hHeld2 => ?_)
            clear hK K hHeld ho6 hg6 ha6
            have hHeld := hHeld2
            clear hHeld2
            refine wpAnyH_ready (rs := [14]) (by kernel_rfl) (by simp) (AllReadyH.cons rfl (fun K hK => ?_) AllReadyH.nil)
            refine step_append_rd (by rfl) (.tmp 38) (.tmp 43) _ (by rfl) w_1.heap.size 26 i0 _ 2 8 Try.underlying22 hi hz0 hz1 hz2 rfl (by decide) v6 (0 + (n - t) + t) (rgs ([] ++ a.drop t ++ a.take t)) (by rfl) H6.out.own _ (some ⟨_, 0, none⟩) 1 1 (rgs [(x1, x2)]) (by rfl) rfl H6.out.q.lit (rgs_one _) (by unfold maxLen; omega) (by omega) H6.out.q.bel.size ?_
            intro v9 w9 ho9 hg9 ha9
            have H9 := Lib.hid (H6.out.app (M := [(x1, x2)]) hg9 ho9 ha9)
            have hb9 : Below w_1.heap.size w_1 w9 := H9.out.q.bel
            refine hK.out _ _ (HCE.out _ hb9) (fun hHeld2 => ?_)
            clear hK K hHeld
            have hHeld := hHeld2
            clear hHeld2 ho9 hg9 ha9
            refine wpAnyH_take (i := 15) (oi := _) (v := ?_) rfl (by kernel_rfl) (by kernel_rfl) (by kernel_rfl) (fun _ _ _ h => h) (Or.inl ⟨by rfl, ?_⟩) (by assumption) ?_
            rotate_left
            · (intro w hSw; (try dsimp only at hSw); (try obtain ⟨s1_, s2_⟩ := hSw); go_simp <;> with_reducible rfl)
            simp only [List.getElem_toArray, List.getElem_cons_succ, List.getElem_cons_zero, Act.put, List.setIfInBounds_toArray, List.set_cons_zero, List.set_cons_succ]
            refine wpAnyH_done (by kernel_rfl) ?_ _
            have HT9 : Hid (Turned w_1 n (a.drop t ++ a.take t ++ [(x1, x2)]) v9 w9) := by
              have h := H9.out.own
              rw [show 0 + (n - t) + t + 1 = n + 1 by omega, List.nil_append] at h
              exact ⟨h, hb9⟩
            clear H9 hb9
            go_wp2_with fail
            go_meet
            exact ⟨_, rfl, HT9⟩
        · go_simp
          have H7 := Lib.hid (H1.out.lay x1 x2)
          obtain ⟨W7, hW7⟩ : ∃ W7, W7 = World.alloc W1 (.cells #[.int .i32 x1, .int .i32 x2] 26) := ⟨_, rfl⟩
          have hb7 : Below w_1.heap.size w_1 (World.alloc W1 (.cells #[.int .i32 x1, .int .i32 x2] 26)) := H7.out.q.bel
          refine hK.out _ _ (HCE.out _ hb7) (fun hHeld2 => ?_)
          rw [← hW7] at H7 hHeld2 hb7 ⊢
          clear hK K hHeld hW7
          have hHeld := hHeld2
          clear hHeld2
          refine wpAnyH_ready (rs := [4]) (by kernel_rfl) (by simp) (AllReadyH.cons rfl (fun K hK => ?_) AllReadyH.nil)
          refine step_append_rd (by rfl) (.tmp 30) (.tmp 33) _ (by rfl) w_1.heap.size 26 i0 _ 2 8 Try.underlying22 hi hz0 hz1 hz2 rfl (by decide) _ 0 (rgs []) (by rfl) H7.out.own _ (some ⟨b, o + t * 2, none⟩) (n - t) (c - t) (rgs (a.drop t)) (by rfl) HLD.out (HRD.out _ H7.out.q.bel) (rgs_one _) (by unfold maxLen; omega) (by omega) H7.out.q.bel.size ?_
          intro v8 w8 ho8 hg8 ha8
          have H8 := Lib.hid (H7.out.app (M := (a.drop t)) hg8 ho8 ha8)
          have hb8 : Below w_1.heap.size w_1 w8 := H8.out.q.bel
          refine hK.out _ _ (HCE.out _ hb8) (fun hHeld2 => ?_)
          clear hK K hHeld ho8 hg8 ha8
          have hHeld := hHeld2
          clear hHeld2
          refine wpAnyH_ready (rs := [8]) (by kernel_rfl) (by simp) (AllReadyH.cons rfl (fun K hK => ?_) AllReadyH.nil)
          refine step_append_rd (by rfl) (.tmp 34) (.tmp 37) _ (by rfl) w_1.heap.size 26 i0 _ 2 8 Try.underlying22 hi hz0 hz1 hz2 rfl (by decide) v8 (0 + (n - t)) (rgs ([] ++ a.drop t)) (by rfl) H8.out.own _ (some ⟨b, o, none⟩) t c (rgs (a.take t)) (by rfl) HLT.out (HRT.out _ H8.out.q.bel) (rgs_one _) (by unfold maxLen; omega) (by omega) H8.out.q.bel.size ?_
          intro v9 w9 ho9 hg9 ha9
          have H9 := Lib.hid (H8.out.app (M := (a.take t)) hg9 ho9 ha9)
          have hb9 : Below w_1.heap.size w_1 w9 := H9.out.q.bel
          refine hK.out _ _ (HCE.out _ hb9) (fun hHeld2 => ?_)
          clear hK K hHeld ho9 hg9 ha9
          have hHeld := hHeld2
          clear hHeld2
          refine wpAnyH_ready (rs := [14]) (by kernel_rfl) (by simp) (AllReadyH.cons rfl (fun K hK => ?_) AllReadyH.nil)
          refine step_append_rd (by rfl) (.tmp 38) (.tmp 43) _ (by rfl) w_1.heap.size 26 i0 _ 2 8 Try.underlying22 hi hz0 hz1 hz2 rfl (by decide) v9 (0 + (n - t) + t) (rgs ([] ++ a.drop t ++ a.take t)) (by rfl) H9.out.own _ (some ⟨_, 0, none⟩) 1 1 (rgs [(x1, x2)]) (by rfl) rfl H9.out.q.lit (rgs_one _) (by unfold maxLen; omega) (by omega) H9.out.q.bel.size ?_
          intro v9 w9 ho9 hg9 ha9
          have H9 := Lib.hid (H9.out.app (M := [(x1, x2)]) hg9 ho9 ha9)
          have hb9 : Below w_1.heap.size w_1 w9 := H9.out.q.bel
          refine hK.out _ _ (HCE.out _ hb9) (fun hHeld2 => ?_)
          clear hK K hHeld
          have hHeld := hHeld2
          clear hHeld2 ho9 hg9 ha9
          refine wpAnyH_take (i := 15) (oi := _) (v := ?_) rfl (by kernel_rfl) (by kernel_rfl) (by kernel_rfl) (fun _ _ _ h => h) (Or.inl ⟨by rfl, ?_⟩) (by assumption) ?_
          rotate_left
          · (intro w hSw; (try dsimp only at hSw); (try obtain ⟨s1_, s2_⟩ := hSw); go_simp <;> with_reducible rfl)
          simp only [List.getElem_toArray, List.getElem_cons_succ, List.getElem_cons_zero, Act.put, List.setIfInBounds_toArray, List.set_cons_zero, List.set_cons_succ]
          refine wpAnyH_done (by kernel_rfl) ?_ _
          have HT9 : Hid (Turned w_1 n (a.drop t ++ a.take t ++ [(x1, x2)]) v9 w9) := by
            have h := H9.out.own
            rw [show 0 + (n - t) + t + 1 = n + 1 by omega, List.nil_append] at h
            exact ⟨h, hb9⟩
          clear H9 hb9
          go_wp2_with fail
          go_meet
          exact ⟨_, rfl, HT9⟩
      · go_simp
        have H10 := Lib.hid (HQ0.out.lay x1 x2)
        obtain ⟨W10, hW10⟩ : ∃ W10, W10 = World.alloc wd (.cells #[.int .i32 x1, .int .i32 x2] 26) := ⟨_, rfl⟩
        have hb10 : Below w_1.heap.size w_1 (World.alloc wd (.cells #[.int .i32 x1, .int .i32 x2] 26)) := H10.out.bel
        refine hK.out _ _ (HCE.out _ hb10) (fun hHeld2 => ?_)
        rw [← hW10] at H10 hHeld2 hb10 ⊢
        clear hK K hHeld hW10
        have hHeld := hHeld2
        clear hHeld2
        refine wpAnyH_ready (rs := [0]) (by kernel_rfl) (by simp) (AllReadyH.cons rfl (fun K hK => ?_) AllReadyH.nil)
        go_simp
        have H11 := Lib.hid (H10.out.zero (show _ = _ from rfl))
        obtain ⟨W11, hW11⟩ : ∃ W11, W11 = World.alloc W10 (.cells #[] 26) := ⟨_, rfl⟩
        have hb11 : Below w_1.heap.size w_1 (World.alloc W10 (.cells #[] 26)) := H11.out.q.bel
        refine hK.out _ _ (HCE.out _ hb11) (fun hHeld2 => ?_)
        rw [← hW11] at H11 hHeld2 hb11 ⊢
        clear hK K hHeld hW11
        have hHeld := hHeld2
        clear hHeld2
        refine wpAnyH_ready (rs := [4]) (by kernel_rfl) (by simp) (AllReadyH.cons rfl (fun K hK => ?_) AllReadyH.nil)
        refine step_append_rd (by rfl) (.tmp 30) (.tmp 33) _ (by rfl) w_1.heap.size 26 i0 _ 2 8 Try.underlying22 hi hz0 hz1 hz2 rfl (by decide) _ 0 (rgs []) (by rfl) H11.out.own _ (some ⟨b, o + t * 2, none⟩) (n - t) (c - t) (rgs (a.drop t)) (by rfl) HLD.out (HRD.out _ H11.out.q.bel) (rgs_one _) (by unfold maxLen; omega) (by omega) H11.out.q.bel.size ?_
        intro v12 w12 ho12 hg12 ha12
        have H12 := Lib.hid (H11.out.app (M := (a.drop t)) hg12 ho12 ha12)
        have hb12 : Below w_1.heap.size w_1 w12 := H12.out.q.bel
        refine hK.out _ _ (HCE.out _ hb12) (fun hHeld2 => ?_)
        clear hK K hHeld ho12 hg12 ha12
        have hHeld := hHeld2
        clear hHeld2
        refine wpAnyH_ready (rs := [8]) (by kernel_rfl) (by simp) (AllReadyH.cons rfl (fun K hK => ?_) AllReadyH.nil)
        refine step_append_rd (by rfl) (.tmp 34) (.tmp 37) _ (by rfl) w_1.heap.size 26 i0 _ 2 8 Try.underlying22 hi hz0 hz1 hz2 rfl (by decide) v12 (0 + (n - t)) (rgs ([] ++ a.drop t)) (by rfl) H12.out.own _ (some ⟨b, o, none⟩) t c (rgs (a.take t)) (by rfl) HLT.out (HRT.out _ H12.out.q.bel) (rgs_one _) (by unfold maxLen; omega) (by omega) H12.out.q.bel.size ?_
        intro v13 w13 ho13 hg13 ha13
        have H13 := Lib.hid (H12.out.app (M := (a.take t)) hg13 ho13 ha13)
        have hb13 : Below w_1.heap.size w_1 w13 := H13.out.q.bel
        refine hK.out _ _ (HCE.out _ hb13) (fun hHeld2 => ?_)
        clear hK K hHeld ho13 hg13 ha13
        have hHeld := hHeld2
        clear hHeld2
        refine wpAnyH_ready (rs := [14]) (by kernel_rfl) (by simp) (AllReadyH.cons rfl (fun K hK => ?_) AllReadyH.nil)
        refine step_append_rd (by rfl) (.tmp 38) (.tmp 43) _ (by rfl) w_1.heap.size 26 i0 _ 2 8 Try.underlying22 hi hz0 hz1 hz2 rfl (by decide) v13 (0 + (n - t) + t) (rgs ([] ++ a.drop t ++ a.take t)) (by rfl) H13.out.own _ (some ⟨_, 0, none⟩) 1 1 (rgs [(x1, x2)]) (by rfl) rfl H13.out.q.lit (rgs_one _) (by unfold maxLen; omega) (by omega) H13.out.q.bel.size ?_
        intro v9 w9 ho9 hg9 ha9
        have H9 := Lib.hid (H13.out.app (M := [(x1, x2)]) hg9 ho9 ha9)
        have hb9 : Below w_1.heap.size w_1 w9 := H9.out.q.bel
        refine hK.out _ _ (HCE.out _ hb9) (fun hHeld2 => ?_)
        clear hK K hHeld
        have hHeld := hHeld2
        clear hHeld2 ho9 hg9 ha9
        refine wpAnyH_take (i := 15) (oi := _) (v := ?_) rfl (by kernel_rfl) (by kernel_rfl) (by kernel_rfl) (fun _ _ _ h => h) (Or.inl ⟨by rfl, ?_⟩) (by assumption) ?_
        rotate_left
        · (intro w hSw; (try dsimp only at hSw); (try obtain ⟨s1_, s2_⟩ := hSw); go_simp <;> with_reducible rfl)
        simp only [List.getElem_toArray, List.getElem_cons_succ, List.getElem_cons_zero, Act.put, List.setIfInBounds_toArray, List.set_cons_zero, List.set_cons_succ]
        refine wpAnyH_done (by kernel_rfl) ?_ _
        have HT9 : Hid (Turned w_1 n (a.drop t ++ a.take t ++ [(x1, x2)]) v9 w9) := by
          have h := H9.out.own
          rw [show 0 + (n - t) + t + 1 = n + 1 by omega, List.nil_append] at h
          exact ⟨h, hb9⟩
        clear H9 hb9
        go_wp2_with fail
        go_meet
        exact ⟨_, rfl, HT9⟩
    case rest =>
      obtain ⟨v', rfl, HT⟩ := hcut
      obtain ⟨M, hM⟩ : ∃ M, M = a.drop t ++ a.take t ++ [(x1, x2)] := ⟨_, rfl⟩
      have HNM := Lib.hid (show norm M = norm a by rw [hM]; exact turn_norm a t _ HX.out)
      have HFM := Lib.hid (show Fit M by rw [hM]; exact turn_fit HA.out.fit t _ HX.out)
      rw [← hM] at HT
      obtain ⟨A9, c9, hv9, _, _, hr9⟩ := own_form HT.out.1
      subst hv9
      have HML := Lib.hid (show M.length = n + 1 by have := HT.out.1.1; rw [rgs_len] at this; omega)
      have HAM := Lib.hid (show Arg wc A9 (n + 1) M from ⟨hr9, HML.out, HFM.out, by omega⟩)
      replace HW := Lib.hid (HW.out.next HT.out.2)
      replace HB := Lib.hid (HB.out.trans (HT.out.2.mono HB.out.size))
      have hMI : Hid (MI wc.heap.size wc.heap.size wc A9 none M [] (pcs cut (M.take 0)) (.slice none 0 0) wc) := ⟨World.ownsRow_nil _ _ _ _, hr9, rd_nil _ _ _, Below.refl _ _, Nat.le_refl _⟩
      clear hM HT hr9 HX HCE HRD HRT HLD HLT hsF hsT d1 d2 HQ0 HA hmod
      go_wp2_with fail
      go_loopw [10, 47] (fun pv iv wr => ∃ (k : Nat) (v : Value), k ≤ n + 1 ∧ iv = .int .i64 k ∧ pv = v ∧ Hid (MI wc.heap.size wc.heap.size wc A9 none M [] (pcs cut (M.take k)) v wr)) (fun _ iv _ => n + 1 - (intOf iv).toNat)
      case atStart => exact ⟨0, _, Nat.zero_le _, rfl, rfl, hMI⟩
      case round =>
        obtain ⟨k, v, hk1, rfl, rfl, HI⟩ := hrel
        clear hMI
        by_cases hlt : k < n + 1
        · have hkM : k < M.length := by rw [HML.out]; exact hlt
          obtain ⟨mb, mo, rfl, hmb⟩ := rd_form_rg HI.out.rda (by omega)
          obtain ⟨d1, d2⟩ := rd_rg HI.out.rda hkM
          have hms : mb < wr.heap.size := Nat.lt_of_lt_of_le hmb HI.out.size
          have HTK := Lib.hid (pcs_take cut M k hkM)
          have HPL := Lib.hid (show (pcs cut (M.take k)).length ≤ 4194304 by have := pcs_len cut (M.take k); rw [List.length_take] at this; omega)
          have hfr := HFM.out _ (List.getElem_mem hkM)
          generalize M[k] = r at *
          obtain ⟨r1, r2⟩ := r
          dsimp only at *
          clear hkM
          by_cases h1 : r1 ≤ cut
          · have dr1 : decide (r1 ≤ cut) = true := decide_eq_true h1
            by_cases h2 : cut < r2
            · have dr2 : decide (cut < r2) = true := decide_eq_true h2
              have HT2 := Lib.hid (show pcs cut (M.take (k + 1)) = pcs cut (M.take k) ++ [(cut + 1, r2), (r1, cut)] by rw [HTK.out]; unfold pc; rw [if_pos ⟨h1, h2⟩])
              have e1 : IntKind.i32.wrap (cut + 1) = cut + 1 := IntWalk.i32_in _ (by omega)
              clear HTK h1 h2
              go_wp2_with (at_builtin; refine wpList_append_rd _ rfl (.tmp 61) (.tmp 71) _ rfl wc.heap.size 26 i0 _ 2 8 Try.underlying22 hi hz0 hz1 hz2 rfl (by decide) u10 (pcs cut (M.take k)).length (rgs (pcs cut (M.take k))) rfl ((HI.out.own.alloc _).alloc _) _ (some ⟨wr.heap.size + 1, 0, none⟩) 2 2 (rgs [(cut + 1, r2), (r1, cut)]) rfl rfl (rd_new _ _ (rgs [(cut + 1, r2), (r1, cut)]) _ (by simp)) (rgs_one _) (by have := HPL.out; unfold maxLen; omega) (by have := HPL.out; omega) (by have := HI.out.size; simp; omega) ?_; intro v6 w6 hown6 hgr6 _; have HN6 := Lib.hid (HI.out.next (R' := pcs cut (M.take (k + 1))) (((grownBy_alloc wr _ _).trans (grownBy_alloc _ _ _)).trans hgr6) (by rw [HT2.out, rgs_append, List.length_append]; exact hown6) (Nat.le_refl _)); clear hown6 hgr6)
              go_roundw
              case rel => exact ⟨k + 1, _, by omega, by go_num, rfl, HN6⟩
              case measure => simp [intOf]; omega
            · have dr2 : decide (cut < r2) = false := decide_eq_false h2
              have HT2 := Lib.hid (show pcs cut (M.take (k + 1)) = pcs cut (M.take k) ++ [(r1, r2)] by rw [HTK.out]; unfold pc; rw [if_neg (fun h => h2 h.2)])
              clear HTK h1 h2
              go_wp2_with (at_builtin; refine wpList_append_rd _ rfl (.tmp 73) (.tmp 75) _ rfl wc.heap.size 26 i0 _ 2 8 Try.underlying22 hi hz0 hz1 hz2 rfl (by decide) u10 (pcs cut (M.take k)).length (rgs (pcs cut (M.take k))) rfl ((HI.out.own.alloc _).alloc _) _ (some ⟨wr.heap.size + 1, 0, none⟩) 1 1 (rgs [(r1, r2)]) rfl rfl (rd_new _ _ (rgs [(r1, r2)]) _ (by simp)) (rgs_one _) (by have := HPL.out; unfold maxLen; omega) (by have := HPL.out; omega) (by have := HI.out.size; simp; omega) ?_; intro v6 w6 hown6 hgr6 _; have HN6 := Lib.hid (HI.out.next (R' := pcs cut (M.take (k + 1))) (((grownBy_alloc wr _ _).trans (grownBy_alloc _ _ _)).trans hgr6) (by rw [HT2.out, rgs_append, List.length_append]; exact hown6) (Nat.le_refl _)); clear hown6 hgr6)
              go_roundw
              case rel => exact ⟨k + 1, _, by omega, by go_num, rfl, HN6⟩
              case measure => simp [intOf]; omega
          · have dr1 : decide (r1 ≤ cut) = false := decide_eq_false h1
            have HT2 := Lib.hid (show pcs cut (M.take (k + 1)) = pcs cut (M.take k) ++ [(r1, r2)] by rw [HTK.out]; unfold pc; rw [if_neg (fun h => h1 h.1)])
            clear HTK h1
            go_wp2_with (at_builtin; refine wpList_append_rd _ rfl (.tmp 73) (.tmp 75) _ rfl wc.heap.size 26 i0 _ 2 8 Try.underlying22 hi hz0 hz1 hz2 rfl (by decide) u10 (pcs cut (M.take k)).length (rgs (pcs cut (M.take k))) rfl ((HI.out.own.alloc _).alloc _) _ (some ⟨wr.heap.size + 1, 0, none⟩) 1 1 (rgs [(r1, r2)]) rfl rfl (rd_new _ _ (rgs [(r1, r2)]) _ (by simp)) (rgs_one _) (by have := HPL.out; unfold maxLen; omega) (by have := HPL.out; omega) (by have := HI.out.size; simp; omega) ?_; intro v6 w6 hown6 hgr6 _; have HN6 := Lib.hid (HI.out.next (R' := pcs cut (M.take (k + 1))) (((grownBy_alloc wr _ _).trans (grownBy_alloc _ _ _)).trans hgr6) (by rw [HT2.out, rgs_append, List.length_append]; exact hown6) (Nat.le_refl _)); clear hown6 hgr6)
            go_roundw
            case rel => exact ⟨k + 1, _, by omega, by go_num, rfl, HN6⟩
            case measure => simp [intOf]; omega
        · have hE : pcs cut (M.take k) = pcs cut M := by rw [List.take_of_length_le (by rw [HML.out]; omega)]
          obtain ⟨Q, hQ⟩ : ∃ Q, Q = pcs cut M := ⟨_, rfl⟩
          have HNQ := Lib.hid (show norm Q = norm a by rw [hQ, pcs_norm, HNM.out])
          have hFQ : Fit Q := by rw [hQ]; exact pcs_fit hcut HFM.out
          have hLQ : Q.length ≤ 4194304 := by rw [hQ]; have := pcs_len cut M; have := HML.out; omega
          have ho := HI.out.own
          rw [hE, ← hQ] at ho
          obtain ⟨Ap, cp, hvp, _, _, hrp⟩ := own_form ho
          obtain ⟨q, hq⟩ : ∃ q, q = Q.length := ⟨_, rfl⟩
          rw [← hq] at hvp
          subst hvp
          have HQ := Lib.hid (show Arg wr Ap q Q from ⟨hrp, hq.symm, hFQ, by omega⟩)
          replace HAM := Lib.hid (HAM.out.next HI.out.bel)
          replace HW := Lib.hid (HW.out.next HI.out.bel)
          replace HB := Lib.hid (HB.out.trans (HI.out.bel.mono HB.out.size))
          clear ho hrp hFQ hLQ hE hQ hq HI HFM HML
          go_wp2_with fail
          refine (a_norm _ HAM.out).mono ?_
          rintro e u1 ⟨B1, k1, c1, rfl, g1, hb1⟩
          rw [HNM.out] at g1
          have HG1 := Lib.hid g1
          replace HW := Lib.hid (HW.out.next hb1)
          replace HQ := Lib.hid (HQ.out.next hb1)
          replace HB := Lib.hid (HB.out.trans (hb1.mono HB.out.size))
          clear g1 hb1
          go_wp2_with fail
          refine (a_same _ _ HG1.out HW.out (eqL_self _)).mono ?_
          rintro e u2 ⟨rfl, hb2⟩
          replace HW := Lib.hid (HW.out.next hb2)
          replace HQ := Lib.hid (HQ.out.next hb2)
          replace HB := Lib.hid (HB.out.trans (hb2.mono HB.out.size))
          clear hb2
          go_wp2_with fail
          refine (a_norm _ HQ.out).mono ?_
          rintro e u3 ⟨B3, k3, c3, rfl, g3, hb3⟩
          rw [HNQ.out] at g3
          have HG3 := Lib.hid g3
          replace HW := Lib.hid (HW.out.next hb3)
          replace HB := Lib.hid (HB.out.trans (hb3.mono HB.out.size))
          clear g3 hb3
          go_wp2_with fail
          refine (a_same _ _ HG3.out HW.out (eqL_self _)).mono ?_
          rintro e u4 ⟨rfl, hb4⟩
          replace HB := Lib.hid (HB.out.trans (hb4.mono HB.out.size))
          clear hb4
          go_wp2_with fail
          go_ret
          exact ⟨rfl, HB.out⟩

theorem contract (H : Type) (enc : TypeId × Value → H) (W : World) (base : Nat) (args : Array Value) (ds gs : List (DataW H)) (before : List MemPlace)
    (hval : ∀ (j : Nat) t v, Try.f8.params[j]? = some t → args[j]? = some v → Value.okWide Try.prog W .any base t v)
    (hW : DataW.Whole enc Try.prog Try.f8.params.toList Rows.rsetOrdersSpec.vars false W args.toList ds gs before) (hk : Rows.uptoSmall H (ds ++ gs) = true) :
    Calls Try.prog 8 args W fun e W' => ∃ v, e = .returned v ∧ Rows.rsetOrdersSpec.post enc Try.prog Try.f8 false true false false W args v W' := by
  have hW' := hW
  obtain ⟨p, q, hA0, hV, rfl, hfz, hnd⟩ := hW
  have hA : DataW.TrodAll enc Try.prog W 0 (fun _ => true) true Try.f8.params.toList args.toList ds p := hA0
  rw [Try.params8] at hA hval
  obtain ⟨v0, vs0, d0, ds0, p0, q0, hargs, rfl, rfl, h0, r0⟩ := trodAll_cons hA
  obtain ⟨v1, vs1, d1, ds1, p1, q1, rfl, rfl, rfl, h1, r1⟩ := trodAll_cons r0
  obtain ⟨v2, vs2, d2, ds2, p2, q2, rfl, rfl, rfl, h2, r2⟩ := trodAll_cons r1
  obtain ⟨rfl, rfl, rfl⟩ := trodAll_nil r2
  obtain rfl : args = #[v0, v1, v2] := by cases args; simp_all
  obtain ⟨rfl, rfl⟩ := trodVars_none hV
  obtain ⟨a0, len0, cap0, rfl⟩ := okWide_slice Try.underlying22 (hval 0 22 v0 rfl rfl)
  have k0 := h0
  have lt0 : ∀ x ∈ p0, x.block < W.heap.size := by obtain ⟨m, hm⟩ := k0; exact DataW.trod_lt m _ _ _ hm
  obtain ⟨l0, hl0, hc0, hm0, hf0, hr0, hb0⟩ := open_rgs h0
  obtain ⟨z1, rfl, rfl, rfl, w1⟩ := open_int Try.underlying3 (hval 1 3 v1 rfl rfl) h1
  obtain ⟨z2, rfl, rfl, rfl, w2⟩ := open_int Try.underlying21 (hval 2 21 v2 rfl rfl) h2
  have hbd := bulk_bound hk
  simp only [List.append_nil, Rows.uptoBulkAll] at hbd
  have H0 : Arg W a0 len0 l0 := ⟨hr0, hl0, hf0, by omega⟩
  clear hA0
  refine (walk a0 l0 len0 cap0 z1 z2 W H0 hc0 hm0 (i64_bounds w1) (i32_bounds w2) (by omega)).mono fun e W' ⟨he, bel⟩ => ?_
  subst he
  exact ⟨_, rfl, _, _, _, [], _, [], hW', trodAll_mk1 (shut_bool Try.underlying4 _), (trodAll_cons_mk (Below.trod laidOut (by kernel_rfl) (of_decide_eq_true (by kernel_rfl)) k0 bel lt0) (trodAll_cons_mk (shut_int Try.underlying3 w1) (trodAll_cons_mk (shut_int Try.underlying21 w2) trodAll_mk0))), rfl, bel.frame _, fun h => by cases h⟩

set_option maxRecDepth 100000 in
theorem lifted (os : Os) (started : os.Started) (H : Type) (enc : TypeId × Value → H) (F : Stop.Interp) :
    ReturnsInHanded {} Try.checked os 8 .any ((Rows.OpenSpec.upto Rows.rsetOrdersSpec).pre6 enc Try.prog Try.f8 Rows.rsetOrdersUptoRow.domain false) (((Rows.OpenSpec.upto Rows.rsetOrdersSpec).at F).post enc Try.prog Try.f8 false true false false) := by
  refine returnsInHanded_of_cond (C := Try.checked) (s := Rows.OpenSpec.upto Rows.rsetOrdersSpec) (k := Rows.uptoSmall) rfl own started (by kernel_rfl) Try.func8
    (OpenSpec.witness (enc := enc) (C := Try.checked) (s := Rows.OpenSpec.upto Rows.rsetOrdersSpec) (k := Rows.uptoSmall) rfl false ⟨#[], #[.slice none 0 0, .int .i64 0, .int .i32 0], []⟩ 8 (by kernel_rfl) (by kernel_rfl) (by kernel_rfl)
      (x := ([.nil, .lit (.int .i64 0), .lit (.int .i32 0)], [], [])) (by kernel_rfl) rfl (by kernel_rfl)) ?_
  intro W base args ds gs before hval hW _ hk _
  exact contract H enc W base args ds gs before hval hW hk

/-- THE STATEMENT -/
theorem proved : Rows.RsetOrdersUptoSaid :=
  OpenClaim.holds_of_cond 8 Try.f8 rfl rfl rfl rfl rfl rfl rfl ⟨rfl, rfl, rfl, rfl, rfl⟩ rfl rfl rfl rfl rfl (by kernel_rfl) Try.func8 (by kernel_rfl)
    (of_decide_eq_true (by kernel_rfl)) (by unfold Func.isWrapper; first | (rw [if_pos (by decide +kernel)]; kernel_rfl) | (rw [if_neg (by decide +kernel)]; exact ⟨rfl, rfl⟩))
    (fun os started H enc _ F => lifted os started H enc F)
end Go.Proofs.Ytldcjeljdmjneaa.LawRsetOrders
