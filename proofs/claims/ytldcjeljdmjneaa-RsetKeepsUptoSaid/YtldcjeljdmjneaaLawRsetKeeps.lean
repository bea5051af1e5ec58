/-
  Whatever two lists of ranges there are: what is handed in stays, its spare room too; what is told is its own. Conditions: the arguments hold together at most 1048576 values.
-/
import Derived.Test.YtldcjeljdmjneaaRsetFixed
import Derived.Laws.OwnMore
import Derived.Laws.MakeOwn
namespace Go.Proofs.Ytldcjeljdmjneaa.LawRsetKeeps
open Go.ChangeShapes Go.WideShapes Go.ChangeAt Go.RowKit
open Utf (Rd Blk nums nums_len nums_append nums_one nums_get wpList_append_rd own_ne)
open Rset
set_option maxRecDepth 100000

def zrs (n : Nat) : List Rg := List.replicate n (0, 0)
theorem zrs_len (n : Nat) : (zrs n).length = n := List.length_replicate
theorem zrs_get (n t : Nat) (h : t < n * 2) : (rgs (zrs n))[t]? = some (.int .i32 0) := by
  obtain ⟨g1, g2⟩ := rgs_get (zrs n) (k := t / 2) (by rw [zrs_len]; omega)
  have e : ∀ h, (zrs n)[t / 2]'h = (0, 0) := fun h => by simp [zrs]
  rw [e] at g1 g2
  have hm : t % 2 = 0 ∨ t % 2 = 1 := by omega
  rcases hm with hm | hm
  · rw [show t / 2 * 2 = t by omega] at g1; exact g1
  · rw [show t / 2 * 2 + 1 = t by omega] at g2; exact g2
theorem zero_cells (n : Nat) : madeCells #[Value.int .i32 0, .int .i32 0] (n * 2) = (rgs (zrs n)).toArray := by
  apply Array.ext_getElem?
  intro t
  rw [show (rgs (zrs n)).toArray[t]? = (rgs (zrs n))[t]? from by simp]
  by_cases h : t < n * 2
  · rw [zrs_get n t h]
    have hm : t % 2 = 0 ∨ t % 2 = 1 := by omega
    rcases hm with hm | hm <;> simp [madeCells, h, hm]
  · rw [List.getElem?_eq_none (by rw [rgs_len, zrs_len]; omega)]
    simp [madeCells, h]
/-- append onto an empty slice within the room of a block that is known whole -/
theorem wpList_append_room {P : Program} {ops : Array Oper} {rest : List Oper} {o : Oper} {a : Act} {w : World} {Q : Exit → Act → World → Prop} (hgd : o.guard = none) (s x : Operand) (t : TypeId)
    (ho : o.op = .call { callee := .builtin .append, args := #[s, x], argTypes := #[t, t] }) (e : TypeId) (i : TypeInfo) (ht : P.underlying t = some (.slice e)) (hi : P.info? e = some i) (hsize : i.size = 2)
    (g cap : Nat) (hs : a.eval s = .slice (some ⟨g, 0, none⟩) 0 cap) (cur : List Value) (hg : Blk w g e cur) (hcl : cur.length = cap * 2)
    (A : Option Addr) (m c : Nat) (hx : a.eval x = .slice A m c) (B : Nat) (news : List Value) (hl : news.length = m * 2) (hr : Rd w B A news) (h1 : ∀ u ∈ news, u.oneCell' = true) (hroom : m ≤ cap)
    (h0 : ∀ w', Blk w' g e (news ++ cur.drop (m * 2)) → w.grownBy w' (some g) → wpList P ops Q rest (a.put o.dst (.slice (some ⟨g, 0, none⟩) m cap)) w') : wpList P ops Q (o :: rest) a w :=
  wpList_plain hgd fun K hK => by
    have h : ∀ w', Blk w' g e (news ++ cur.drop (m * 2)) → w.grownBy w' (some g) → K (a.put o.dst (.slice (some ⟨g, 0, none⟩) m cap)) w' := fun w' h2 h3 => hK _ _ (h0 w' h2 h3)
    by_cases h0 : news = []
    · subst h0
      have hm : m = 0 := by simp at hl; omega
      subst hm
      have hrun : (Builtin.append_ #[t, t] o.type #[.slice (some ⟨g, 0, none⟩) 0 cap, .slice A 0 c]).run P w = .ok (.slice (some ⟨g, 0, none⟩) 0 cap) w := by
        cases A with
        | none => simp [Builtin.append_, run_underlying ht, sizeOf, typeInfo, hi, Builtin.lenOf, Builtin.firstCells, storeCells]
        | some ad => simp [Builtin.append_, run_underlying ht, sizeOf, typeInfo, hi, Builtin.lenOf, Builtin.firstCells, loadCells, loadCellsFrom, storeCells]
      have hfin := h w (by simpa using hg) (World.grownBy.refl w _)
      unfold Oper.wp execOp
      simp only [ho, resolve, invoke, builtin, Sem.run_bind, Sem.run_pure, Result.andThen_ok, List.map_toArray, List.map_cons, List.map_nil, hs, hx, hrun]
      exact hfin
    · obtain ⟨b', o', rfl, _, hc⟩ := hr h0
      have hsrc : ∀ j v, news[j]? = some v → w.cell? ((⟨b', o', none⟩ : Addr).add j) = some v := fun j v hv => by
        have hadd : (⟨b', o', none⟩ : Addr).add j = ⟨b', o' + j, none⟩ := by unfold Addr.add; split <;> simp_all
        rw [hadd]; exact hc j v hv
      have hrun := run_append_room (P := P) w t o.type e i ht hi g 0 cap cur.toArray hg ⟨b', o', none⟩ m c news (by rw [hsize]; exact hl) hsrc h1 (by omega) (by simp [hcl]; omega)
      unfold Oper.wp
      simp [execOp, ho, resolve, invoke, builtin, hs, hx, hrun, Result.andThen]
      refine h _ ?_ ⟨rfl, rfl, rfl, by simp, fun j _ hk => setRow_other w g j _ (fun e => hk (by rw [e]))⟩
      have := setRow_heap w g cur.toArray (news ++ cur.drop (m * 2)).toArray e _ hg
      unfold Blk
      simpa [hsize, hl] using this
theorem rgs_set0 (L : List Rg) (k : Nat) (hk : k < L.length) : ((rgs L).set (k * 2) (.int .i32 0)).set (k * 2 + 1) (.int .i32 0) = rgs (L.set k (0, 0)) := by
  have e : L = L.take k ++ (L[k] :: L.drop (k + 1)) := by rw [← List.drop_eq_getElem_cons hk, List.take_append_drop]
  have hl : (rgs (L.take k)).length = k * 2 := by rw [rgs_len, List.length_take]; omega
  have e2 : L.set k (0, 0) = L.take k ++ ((0, 0) :: L.drop (k + 1)) := by rw [List.set_eq_take_append_cons_drop, if_pos hk]
  generalize L[k] = r at e
  rw [e2]
  conv => lhs; rw [e]
  rw [rgs_append, rgs_append, List.set_append_right _ _ (by omega), hl, Nat.sub_self, List.set_append_right _ _ (by omega), hl, show k * 2 + 1 - k * 2 = 1 by omega]
  rfl
/-- what stands through the loops -/
structure KI (w wr : World) (g E1 E2 : Nat) (cs : List Value) (vx vy : Value) (Lx Ly : List Rg) : Prop where
  ownx : wr.ownsRow E1 26 2 vx Lx.length (rgs Lx)
  ltx : ∀ k, vx.ownBlock = some k → k < E2
  owny : wr.ownsRow E2 26 2 vy Ly.length (rgs Ly)
  blk : Blk wr g 26 cs
  gE : g < E1
  w1 : w.heap.size ≤ E1
  w2 : E1 ≤ E2
  sz : E2 ≤ wr.heap.size
  bel : Below w.heap.size w wr
section
variable {w wr : World} {g E1 E2 : Nat} {cs : List Value} {vx vy : Value} {Lx Ly : List Rg}
theorem own_len {w : World} {B n m : Nat} {v : Value} {L : List Rg} (h : w.ownsRow B 26 2 v n (rgs L)) (hm : L.length = m) : n = m := by have := h.1; rw [rgs_len] at this; omega
theorem KI.setx (h : KI w wr g E1 E2 cs vx vy Lx Ly) {gx c k : Nat} (hv : vx = .slice (some ⟨gx, 0, none⟩) Lx.length c) (hk : k < Lx.length) : KI w ((wr.setCell ⟨gx, k * 2, none⟩ (.int .i32 0)).setCell ⟨gx, k * 2 + 1, none⟩ (.int .i32 0)) g E1 E2 cs vx vy (Lx.set k (0, 0)) Ly := by
  subst hv
  have hg := h.ltx gx rfl
  have hb := (h.ownx.lt gx rfl).1
  obtain ⟨o1, g1⟩ := h.ownx.stored (k * 2) (.int .i32 0)
  obtain ⟨o2, g2⟩ := o1.stored (k * 2 + 1) (.int .i32 0)
  rw [rgs_set0 Lx k hk] at o2
  have g12 := g1.trans g2
  refine ⟨by rw [List.length_set]; exact o2, h.ltx, h.owny.kept g12 (.inr fun e => by have := (h.owny.lt _ e).1; omega), h.blk.grown g12 (fun e => by injection e with e; have := h.gE; omega), h.gE, h.w1, h.w2, by have := g12.size; have := h.sz; omega, h.bel.grown g12 h.bel.size (fun j hj => by injection hj with hj; have := h.w1; omega)⟩
theorem KI.sety (h : KI w wr g E1 E2 cs vx vy Lx Ly) {gy c k : Nat} (hv : vy = .slice (some ⟨gy, 0, none⟩) Ly.length c) (hk : k < Ly.length) : KI w ((wr.setCell ⟨gy, k * 2, none⟩ (.int .i32 0)).setCell ⟨gy, k * 2 + 1, none⟩ (.int .i32 0)) g E1 E2 cs vx vy Lx (Ly.set k (0, 0)) := by
  subst hv
  have hb := (h.owny.lt gy rfl).1
  obtain ⟨o1, g1⟩ := h.owny.stored (k * 2) (.int .i32 0)
  obtain ⟨o2, g2⟩ := o1.stored (k * 2 + 1) (.int .i32 0)
  rw [rgs_set0 Ly k hk] at o2
  have g12 := g1.trans g2
  refine ⟨h.ownx.kept g12 (.inr fun e => by have := h.ltx _ e; omega), h.ltx, by rw [List.length_set]; exact o2, h.blk.grown g12 (fun e => by injection e with e; have := h.gE; have := h.w2; omega), h.gE, h.w1, h.w2, by have := g12.size; have := h.sz; omega, h.bel.grown g12 h.bel.size (fun j hj => by injection hj with hj; have := h.w1; have := h.w2; omega)⟩
theorem KI.appy (h : KI w wr g E1 E2 cs vx vy Lx Ly) {w' : World} {v' : Value} {L' : List Rg} (hg : wr.grownBy w' vy.ownBlock) (ho : w'.ownsRow E2 26 2 v' L'.length (rgs L')) : KI w w' g E1 E2 cs vx v' Lx L' :=
  ⟨h.ownx.kept hg (by
      cases hx : vx.ownBlock with
      | none => exact .inl rfl
      | some k => exact .inr fun e => by have h1 := h.ltx k hx; have h2 := (h.owny.lt k e.symm).1; omega), h.ltx, ho, h.blk.grown hg (fun e => by have := (h.owny.lt g e.symm).1; have := h.gE; have := h.w2; omega), h.gE, h.w1, h.w2, Nat.le_trans h.sz hg.size,
    h.bel.grown hg h.bel.size (fun j hj => by have := (h.owny.lt j hj).1; have := h.w1; have := h.w2; omega)⟩
end
/-- a block that begins with a list reads as it -/
theorem arg_blk {u : World} {g n : Nat} {cs : List Value} {a : List Rg} (h : Blk u g 26 cs) (ht : cs.take (n * 2) = rgs a) (hn : a.length = n) (hf : Fit a) (hs : n ≤ 8388608) : Arg u (some ⟨g, 0, none⟩) n a :=
  ⟨fun _ => ⟨g, 0, rfl, h.lt, fun j x hx => by
    rw [Nat.zero_add, h.cell]
    rw [← ht, List.getElem?_take] at hx
    split at hx
    · exact hx
    · cases hx⟩, hn, hf, hs⟩

set_option maxHeartbeats 16000000 in
theorem walk (A B : Option Addr) (a b : List Rg) (n m c d : Nat) (w : World) (hA : Arg w A n a) (hB : Arg w B m b) (hsm : n ≤ 1048576) :
    Calls Try.prog 7 #[.slice A n c, .slice B m d] w (Law w) := by
  obtain ⟨i0, hi, hz0, hz1, hz2⟩ := info_parts infoRg
  have HA00 := Lib.hid hA
  have HA := Lib.hid hA; have HBb := Lib.hid hB
  have HB := Lib.hid (Below.refl w.heap.size w)
  clear hA hB
  go_enter Try.func7, Try.ntmps7
  go_wp2_with fail
  refine (fixed_any _).mono ?_
  rintro e w_0 ⟨rfl, hb_0⟩
  replace HA := Lib.hid (HA.out.next hb_0)
  replace HBb := Lib.hid (HBb.out.next hb_0)
  replace HB := Lib.hid (HB.out.trans (hb_0.mono HB.out.size))
  clear hb_0
  have e1 : IntKind.i64.wrap ((n : Int) + 2) = (n : Int) + 2 := IntWalk.i64_in _ (by omega)
  have hmk : ∀ u : World, (Instr.makeSlice 22 (.int .i64 0) (.int .i64 ((n : Int) + 2))).run Try.prog u = .ok (.slice (some ⟨u.heap.size, 0, none⟩) 0 (n + 2)) (u.alloc (.cells (rgs (zrs (n + 2))).toArray 26)) := fun u => by
    have h := run_make (P := Try.prog) u 22 26 i0 (.agg #[.int .i32 0, .int .i32 0]) Try.underlying22 hi hz0 .i64 .i64 0 ((n : Int) + 2) (by omega) (by omega) (by rw [hz2]; omega) (by omega)
    have e : ((n : Int) + 2).toNat = n + 2 := by omega
    rw [e, hz1] at h
    rw [h]
    show Result.ok _ (u.alloc (.cells (madeCells #[Value.int .i32 0, .int .i32 0] ((n + 2) * 2)) _)) = _
    rw [zero_cells]; rfl
  have hsl : ∀ g : Nat, ∀ u : World, (Instr.slice 22 (.slice (some ⟨g, 0, none⟩) n (n + 2)) none (some (.int .i64 ((n : Int) + 2))) none).run Try.prog u = .ok (.slice (some ⟨g, 0, none⟩) (n + 2) (n + 2)) u := fun g u => by
    have he : Try.prog.elem 22 = 26 := by simp [Program.elem, Try.underlying22]
    have hadd : (⟨g, 0, none⟩ : Addr).add 0 = ⟨g, 0, none⟩ := by unfold Addr.add; split <;> simp_all
    have e : ((n : Int) + 2).toNat = n + 2 := by omega
    rw [run_slice_h u 22 (some ⟨g, 0, none⟩) n (n + 2) (by rw [he]; exact Try.underlying22) .i64 ((n : Int) + 2) (by omega) (by omega), he, Try.sizeOf26]
    simp [Result.andThen, sliced, hadd, e]
  have HZL := Lib.hid (show (rgs (zrs (n + 2))).length = (n + 2) * 2 by rw [rgs_len, zrs_len])
  have HNL := Lib.hid (show (rgs a).length = n * 2 by rw [rgs_len, HA.out.len])
  have HCR := Lib.hid (show rgs a ++ (rgs (zrs (n + 2))).drop (n * 2) = rgs a ++ rgs (zrs 2) by
    rw [rgs_drop, zrs, List.drop_replicate, show n + 2 - n = 2 by omega]; rfl)
  go_wp2_with (at_builtin; refine wpList_append_room rfl (.tmp 16) (.tmp 17) _ rfl 26 i0 Try.underlying22 hi hz1 w_0.heap.size (n + 2) rfl (rgs (zrs (n + 2))) (Blk.new _ _ _) HZL.out A n c rfl w_0.heap.size (rgs a) HNL.out (HA.out.rd.alloc (Nat.le_refl _) _) (rgs_one _) (by omega) ?_; intro w2 hB2 hg2; rw [HCR.out] at hB2; have hw2 : Below w_0.heap.size w_0 w2 := Below.grown ((Below.refl _ _).alloc (Nat.le_refl _) _) hg2 (by simp) (fun k hk => by cases hk; exact Nat.le_refl _); obtain ⟨g, hg⟩ : ∃ g, g = w_0.heap.size := ⟨_, rfl⟩; rw [← hg] at hB2 ⊢; have hsg := hsl g; have hck : w2.cell? ⟨g, n * 2, none⟩ = some (.int .i32 0) := (by rw [hB2.cell, List.getElem?_append_right (by rw [HNL.out]; omega), HNL.out, Nat.sub_self]; rfl); have hfk := hB2.frozen (n * 2); have HB2 := Lib.hid hB2; have HW2 := Lib.hid hw2; have HG := Lib.hid hg; clear hg2 hg hB2 hw2 hmk hsl)
  obtain ⟨w3, hw3⟩ : ∃ w3, w3 = w2.setCell ⟨g, n * 2, none⟩ (.int .i32 77) := ⟨_, rfl⟩
  rw [← hw3]
  obtain ⟨cs, hcs⟩ : ∃ cs, cs = (rgs a ++ rgs (zrs 2)).set (n * 2) (.int .i32 77) := ⟨_, rfl⟩
  have hB3 : Blk w3 g 26 cs := by rw [hw3, hcs]; exact HB2.out.set_ (n * 2) _
  have hb3 : Below w_0.heap.size w_0 w3 := by rw [hw3]; exact HW2.out.setCell (by show w_0.heap.size ≤ g; have := HG.out; omega) _
  have htk : cs.take (n * 2) = rgs a := by rw [hcs, List.take_set, List.set_eq_of_length_le (by rw [List.length_take]; omega), List.take_left' HNL.out]
  have hc7 : cs[n * 2]? = some (.int .i32 77) := by rw [hcs, List.getElem?_set_self (by rw [List.length_append, HNL.out, rgs_len, zrs_len]; omega)]
  have HTK := Lib.hid htk; have HC7 := Lib.hid hc7
  have HFA := Lib.hid HA.out.fit; have HLA := Lib.hid HA.out.len
  have HAR := Lib.hid (fun (u : World) (h : Blk u g 26 cs) => arg_blk h HTK.out HLA.out HFA.out (by omega))
  replace HA := Lib.hid (HA.out.next hb3)
  replace HBb := Lib.hid (HBb.out.next hb3)
  replace HB := Lib.hid (HB.out.trans (hb3.mono HB.out.size))
  have HB3 := Lib.hid hB3
  clear hw3 hcs hB3 hb3 htk hc7 HB2 HW2 hck hfk hsg e1 HZL HNL HCR
  obtain ⟨E1, hE1⟩ : ∃ E1, E1 = w3.heap.size := ⟨_, rfl⟩
  have HE1 := Lib.hid (show w.heap.size ≤ E1 from by have := HB.out.size; rw [hE1]; exact this)
  refine (uni_any (some ⟨g, 0, none⟩) B a b n m (n + 2) d w3 (HAR.out w3 HB3.out).rd HBb.out.rd HLA.out HBb.out.len HFA.out HBb.out.fit (by have := HBb.out.sm; omega)).mono ?_
  rintro e w4 ⟨vx, rfl, hox, hb4⟩
  obtain ⟨Lx, hLx⟩ : ∃ L, L = uni a b := ⟨_, rfl⟩
  have hlx : Lx.length ≤ 557056 := by rw [hLx]; exact nm_len (nl_nm _)
  rw [← hLx] at hox
  replace HA := Lib.hid (HA.out.next hb4)
  replace HBb := Lib.hid (HBb.out.next hb4)
  replace HB := Lib.hid (HB.out.trans (hb4.mono HB.out.size))
  have HB4 := Lib.hid (HB3.out.below hb4 HB3.out.lt)
  have HOX := Lib.hid hox
  have hs4 := hb4.size
  have hg3 := HB3.out.lt
  rw [← hE1] at hs4 hg3 HOX
  have HS4 := Lib.hid hs4; have HG3 := Lib.hid hg3
  clear hox hLx hb4 hs4 hg3 HB3 hE1
  go_wp2_with fail
  obtain ⟨E2, hE2⟩ : ∃ E2, E2 = w4.heap.size := ⟨_, rfl⟩
  refine (norm_any (some ⟨g, 0, none⟩) a n (n + 2) w4 (HAR.out w4 HB4.out).rd HLA.out HFA.out (by omega)).mono ?_
  rintro e w5 ⟨vy, rfl, hoy, hb5⟩
  obtain ⟨Ly, hLy⟩ : ∃ L, L = norm a := ⟨_, rfl⟩
  have hly : Ly.length ≤ 557056 := by rw [hLy]; exact nm_len (nl_nm _)
  rw [← hLy] at hoy
  have HKI := Lib.hid (show KI w w5 g E1 E2 cs vx vy Lx Ly from ⟨own_below HOX.out hb5, fun k hk => by have := (HOX.out.lt k hk).2; omega, hE2 ▸ hoy, HB4.out.below hb5 HB4.out.lt, HG3.out, HE1.out, by have := HS4.out; omega, by have := hb5.size; omega, HB.out.trans (hb5.mono HB.out.size)⟩)
  replace HA := Lib.hid (HA.out.next hb5)
  replace HBb := Lib.hid (HBb.out.next hb5)
  clear hoy hLy hb5 HB4 HOX HB hE2
  have HNX := Lib.hid (fun (u u' : World) (h : KI w u g E1 E2 cs vx vy Lx Ly) (hb : Below u.heap.size u u') => show KI w u' g E1 E2 cs vx vy Lx Ly from ⟨own_below h.ownx hb, h.ltx, own_below h.owny hb, h.blk.below hb h.blk.lt, h.gE, h.w1, h.w2, Nat.le_trans h.sz hb.size, h.bel.trans (hb.mono h.bel.size)⟩)
  obtain ⟨Ax, cx, hvx, _, _, _⟩ := own_form HKI.out.ownx
  obtain ⟨Ay, cy, hvy, _, _, _⟩ := own_form HKI.out.owny
  obtain ⟨nx, hnx⟩ : ∃ nx, nx = Lx.length := ⟨_, rfl⟩
  obtain ⟨ny, hny⟩ : ∃ ny, ny = Ly.length := ⟨_, rfl⟩
  rw [← hnx] at hvx hlx
  rw [← hny] at hvy hly
  subst hvx hvy
  have HNXL := Lib.hid hnx; have HNYL := Lib.hid hny
  clear hnx hny
  go_wp2_with fail
  refine (a_not _ (HAR.out w5 HKI.out.blk)).mono ?_
  rintro e w6 ⟨A6, n6, c6, rfl, _, hb6⟩
  replace HKI := Lib.hid (HNX.out _ _ HKI.out hb6)
  replace HA := Lib.hid (HA.out.next hb6)
  replace HBb := Lib.hid (HBb.out.next hb6)
  clear hb6
  go_wp2_with fail
  refine (a_meet _ _ HBb.out (HAR.out w6 HKI.out.blk)).mono ?_
  rintro e w7 ⟨A7, n7, c7, rfl, _, hb7⟩
  replace HKI := Lib.hid (HNX.out _ _ HKI.out hb7)
  replace HA := Lib.hid (HA.out.next hb7)
  clear hb7 HNX HBb
  clear HA
  go_wp2_with fail
  go_loopw [41] (fun i wr => ∃ (k : Nat) (L : List Rg), k ≤ nx ∧ i = .int .i64 k ∧ Hid (nx = L.length) ∧ Hid (KI w wr g E1 E2 cs (.slice Ax nx cx) (.slice Ay ny cy) L Ly) ∧ Hid (Below E1 w7 wr)) (fun i _ => nx - (intOf i).toNat)
  case atStart => exact ⟨0, Lx, Nat.zero_le _, rfl, HNXL, HKI, Lib.hid (Below.refl _ _)⟩
  case round =>
    obtain ⟨k, L, hk, rfl, HL, HK, HW⟩ := hrel
    by_cases hlt : k < nx
    · obtain ⟨gx, cap, hv, hgx, hgl⟩ := HK.out.ownx.form (by have := HL.out; omega)
      injection hv with hv1 hv2 hv3
      subst hv1
      have hkL : k < L.length := by have := HL.out; omega
      have hox := HK.out.ownx
      rw [← HL.out] at hox
      have q0 := hox.cellAt (k * 2) (by omega)
      have q1 := hox.cellAt (k * 2 + 1) (by omega)
      obtain ⟨r0, r1⟩ := rgs_get L hkL
      rw [r0] at q0
      rw [r1] at q1
      have f0 := hox.frozenAt (k * 2)
      have f1 := hox.frozenAt (k * 2 + 1)
      have HK2 := Lib.hid (HK.out.setx (gx := gx) (c := cx) (k := k) (by rw [← HL.out]) hkL)
      have HW2 := Lib.hid (show Below E1 w7 ((wr.setCell ⟨gx, k * 2, none⟩ (.int .i32 0)).setCell ⟨gx, k * 2 + 1, none⟩ (.int .i32 0)) from (HW.out.setCell (by exact hgx) _).setCell (by exact hgx) _)
      have HL2 := Lib.hid (show nx = (L.set k (0, 0)).length by rw [List.length_set]; exact HL.out)
      generalize L[k] = r at q0 q1
      obtain ⟨ra, rb⟩ := r
      dsimp only at q0 q1
      clear r0 r1 hox hv2 hv3 hkL hgx hgl
      go_wp2_with fail
      go_roundw
      case rel => exact ⟨k + 1, L.set k (0, 0), by omega, by go_num, HL2, HK2, HW2⟩
      case measure => simp [intOf]; omega
    · have HKX := HK; have HWX := HW
      clear HK HW HL HKI HNXL
      go_wp2_with fail
      go_loopw [51] (fun i wr => ∃ (k : Nat) (M : List Rg), k ≤ ny ∧ i = .int .i64 k ∧ Hid (ny = M.length) ∧ Hid (KI w wr g E1 E2 cs (.slice Ax nx cx) (.slice Ay ny cy) L M) ∧ Hid (Below E1 w7 wr)) (fun i _ => ny - (intOf i).toNat)
      case atStart => exact ⟨0, Ly, Nat.zero_le _, rfl, HNYL, HKX, HWX⟩
      case round =>
        obtain ⟨k2, M, hk2, rfl, HL, HK, HW⟩ := hrel
        by_cases hlt2 : k2 < ny
        · obtain ⟨gy, cap, hv, hgy, hgl⟩ := HK.out.owny.form (by have := HL.out; omega)
          injection hv with hv1 hv2 hv3
          subst hv1
          have hkL : k2 < M.length := by have := HL.out; omega
          have hox := HK.out.owny
          rw [← HL.out] at hox
          have q0 := hox.cellAt (k2 * 2) (by omega)
          have q1 := hox.cellAt (k2 * 2 + 1) (by omega)
          obtain ⟨r0, r1⟩ := rgs_get M hkL
          rw [r0] at q0
          rw [r1] at q1
          have f0 := hox.frozenAt (k2 * 2)
          have f1 := hox.frozenAt (k2 * 2 + 1)
          have HK2 := Lib.hid (HK.out.sety (gy := gy) (c := cy) (k := k2) (by rw [← HL.out]) hkL)
          have HW2 := Lib.hid (show Below E1 w7 ((wr.setCell ⟨gy, k2 * 2, none⟩ (.int .i32 0)).setCell ⟨gy, k2 * 2 + 1, none⟩ (.int .i32 0)) from (HW.out.setCell (by have := HK.out.w2; show E1 ≤ gy; omega) _).setCell (by have := HK.out.w2; show E1 ≤ gy; omega) _)
          have HL2 := Lib.hid (show ny = (M.set k2 (0, 0)).length by rw [List.length_set]; exact HL.out)
          generalize M[k2] = r at q0 q1
          obtain ⟨ra, rb⟩ := r
          dsimp only at q0 q1
          clear r0 r1 hox hv2 hv3 hkL hgy hgl
          go_wp2_with fail
          go_roundw
          case rel => exact ⟨k2 + 1, M.set k2 (0, 0), by omega, by go_num, HL2, HK2, HW2⟩
          case measure => simp [intOf]; omega
        · have HKX := HK; have HWX := HW; have HLX := HL
          clear HK HW HL HNYL
          go_wp2_with fail
          go_loopw [8, 59] (fun v i wr => ∃ (k : Nat) (M : List Rg) (vy : Value), k ≤ 5 ∧ i = .int .i64 k ∧ v = vy ∧ Hid (M.length = ny + k) ∧ Hid (KI w wr g E1 E2 cs (.slice Ax nx cx) vy L M) ∧ Hid (Below E1 w7 wr)) (fun _ i _ => 5 - (intOf i).toNat)
          case atStart => exact ⟨0, M, _, Nat.zero_le _, rfl, rfl, Lib.hid HLX.out.symm, HKX, HWX⟩
          case round =>
            obtain ⟨k3, M3, vy, hk3, rfl, rfl, HL, HK, HW⟩ := hrel
            clear HKX HWX HLX
            by_cases hlt3 : k3 < 5
            · have HS := Lib.hid (show E2 ≤ wr.heap.size from HK.out.sz)
              have HM2 := Lib.hid (show M3.length ≤ 1048576 from by have := HL.out; omega)
              go_wp2_with (at_builtin; refine wpList_append_rd _ rfl (.tmp 61) (.tmp 63) _ rfl E2 26 i0 _ 2 8 Try.underlying22 hi hz0 hz1 hz2 rfl (by decide) u8 M3.length (rgs M3) rfl (HK.out.owny.alloc _) _ (some ⟨wr.heap.size, 0, none⟩) 1 1 (rgs [((0 : Int), (0 : Int))]) rfl rfl (rd_new _ _ (rgs [((0 : Int), (0 : Int))]) _ (by simp)) (rgs_one _) (by have := HM2.out; unfold maxLen; omega) (by have := HM2.out; omega) (by have := HS.out; simp; omega) ?_; intro v6 w6 hown6 hgr6 _; have hg6 := (grownBy_alloc wr (.cells #[.int .i32 0, .int .i32 0] 26) u8.ownBlock).trans hgr6; have HN6 := Lib.hid (HK.out.appy (L' := M3 ++ [(0, 0)]) hg6 (by rw [rgs_append, List.length_append]; exact hown6)); have HW6 := Lib.hid (show Below E1 w7 w6 from HW.out.grown hg6 (by have := HK.out.w2; have := HS.out; omega) (fun y hy => by have := (HK.out.owny.lt y hy).1; have := HK.out.w2; omega)); clear hown6 hgr6 hg6)
              go_roundw
              case rel => exact ⟨k3 + 1, M3 ++ [(0, 0)], _, by omega, by go_num, rfl, Lib.hid (by rw [List.length_append, HL.out]; simp; omega), HN6, HW6⟩
              case measure => simp [intOf]; omega
            · have HB := Lib.hid HK.out.bel
              have HC := Lib.hid (show Blk wr g 26 cs from HK.out.blk)
              have HA2 := Lib.hid (HA00.out.next HK.out.bel)
              clear HK HW HL
              go_wp2_with fail
              refine (a_same _ _ (HAR.out wr HC.out) HA2.out (eqL_self _)).mono ?_
              rintro e w8 ⟨rfl, hb8⟩
              have HC8 := Lib.hid (HC.out.below hb8 HC.out.lt)
              replace HA2 := Lib.hid (HA2.out.next hb8)
              replace HB := Lib.hid (HB.out.trans (hb8.mono HB.out.size))
              have hc77 : w8.cell? ⟨g, n * 2, none⟩ = some (.int .i32 77) := (HC8.out.cell _).trans HC7.out
              clear hb8 HC
              go_wp2_with fail
              refine (a_norm _ (HAR.out w8 HC8.out)).mono ?_
              rintro e w9 ⟨A9, n9, c9, rfl, h9, hb9⟩
              have H9 := Lib.hid h9
              replace HA2 := Lib.hid (HA2.out.next hb9)
              replace HB := Lib.hid (HB.out.trans (hb9.mono HB.out.size))
              clear h9 hb9 hc77
              go_wp2_with fail
              refine (a_rnorm _ HA2.out).mono ?_
              rintro e wa ⟨Aa, na, ca, rfl, ha, hba⟩
              have HAa := Lib.hid ha
              replace H9 := Lib.hid (H9.out.next hba)
              replace HB := Lib.hid (HB.out.trans (hba.mono HB.out.size))
              clear ha hba
              go_wp2_with fail
              refine (a_same _ _ H9.out HAa.out (eqL_self _)).mono ?_
              rintro e wb ⟨rfl, hbb⟩
              replace HB := Lib.hid (HB.out.trans (hbb.mono HB.out.size))
              clear hbb
              go_wp2_with fail
              go_ret
              exact ⟨rfl, HB.out⟩

theorem contract (H : Type) (enc : TypeId × Value → H) (W : World) (base : Nat) (args : Array Value) (ds gs : List (DataW H)) (before : List MemPlace)
    (hval : ∀ (j : Nat) t v, Try.f7.params[j]? = some t → args[j]? = some v → Value.okWide Try.prog W .any base t v)
    (hW : DataW.Whole enc Try.prog Try.f7.params.toList Rows.rsetKeepsSpec.vars false W args.toList ds gs before) (hk : Rows.uptoSmall H (ds ++ gs) = true) :
    Calls Try.prog 7 args W fun e W' => ∃ v, e = .returned v ∧ Rows.rsetKeepsSpec.post enc Try.prog Try.f7 false true false false W args v W' := by
  have hW' := hW
  obtain ⟨p, q, hA0, hV, rfl, hfz, hnd⟩ := hW
  have hA : DataW.TrodAll enc Try.prog W 0 (fun _ => true) true Try.f7.params.toList args.toList ds p := hA0
  rw [Try.params7] at hA hval
  obtain ⟨v0, vs0, d0, ds0, p0, q0, hargs, rfl, rfl, h0, r0⟩ := trodAll_cons hA
  obtain ⟨v1, vs1, d1, ds1, p1, q1, rfl, rfl, rfl, h1, r1⟩ := trodAll_cons r0
  obtain ⟨rfl, rfl, rfl⟩ := trodAll_nil r1
  obtain rfl : args = #[v0, v1] := by cases args; simp_all
  obtain ⟨rfl, rfl⟩ := trodVars_none hV
  obtain ⟨a0, len0, cap0, rfl⟩ := okWide_slice Try.underlying22 (hval 0 22 v0 rfl rfl)
  have k0 := h0
  have lt0 : ∀ x ∈ p0, x.block < W.heap.size := by obtain ⟨m, hm⟩ := k0; exact DataW.trod_lt m _ _ _ hm
  obtain ⟨l0, hl0, hc0, hm0, hf0, hr0, hb0⟩ := open_rgs h0
  obtain ⟨a1, len1, cap1, rfl⟩ := okWide_slice Try.underlying22 (hval 1 22 v1 rfl rfl)
  have k1 := h1
  have lt1 : ∀ x ∈ p1, x.block < W.heap.size := by obtain ⟨m, hm⟩ := k1; exact DataW.trod_lt m _ _ _ hm
  obtain ⟨l1, hl1, hc1, hm1, hf1, hr1, hb1⟩ := open_rgs h1
  have hbd := bulk_bound hk
  simp only [List.append_nil, Rows.uptoBulkAll] at hbd
  have H0 : Arg W a0 len0 l0 := ⟨hr0, hl0, hf0, by omega⟩
  have H1 : Arg W a1 len1 l1 := ⟨hr1, hl1, hf1, by omega⟩
  clear hA0
  refine (walk a0 a1 l0 l1 len0 len1 cap0 cap1 W H0 H1 (by omega)).mono fun e W' ⟨he, bel⟩ => ?_
  subst he
  exact ⟨_, rfl, _, _, _, [], _, [], hW', trodAll_mk1 (shut_bool Try.underlying4 _), (trodAll_cons_mk (Below.trod laidOut (by kernel_rfl) (of_decide_eq_true (by kernel_rfl)) k0 bel lt0) (trodAll_cons_mk (Below.trod laidOut (by kernel_rfl) (of_decide_eq_true (by kernel_rfl)) k1 bel lt1) trodAll_mk0)), rfl, bel.frame _, fun h => by cases h⟩

set_option maxRecDepth 100000 in
theorem lifted (os : Os) (started : os.Started) (H : Type) (enc : TypeId × Value → H) (F : Stop.Interp) :
    ReturnsInHanded {} Try.checked os 7 .any ((Rows.OpenSpec.upto Rows.rsetKeepsSpec).pre6 enc Try.prog Try.f7 Rows.rsetKeepsUptoRow.domain false) (((Rows.OpenSpec.upto Rows.rsetKeepsSpec).at F).post enc Try.prog Try.f7 false true false false) := by
  refine returnsInHanded_of_cond (C := Try.checked) (s := Rows.OpenSpec.upto Rows.rsetKeepsSpec) (k := Rows.uptoSmall) rfl own started (by kernel_rfl) Try.func7
    (OpenSpec.witness (enc := enc) (C := Try.checked) (s := Rows.OpenSpec.upto Rows.rsetKeepsSpec) (k := Rows.uptoSmall) rfl false ⟨#[], #[.slice none 0 0, .slice none 0 0], []⟩ 8 (by kernel_rfl) (by kernel_rfl) (by kernel_rfl)
      (x := ([.nil, .nil], [], [])) (by kernel_rfl) rfl (by kernel_rfl)) ?_
  intro W base args ds gs before hval hW _ hk _
  exact contract H enc W base args ds gs before hval hW hk

/-- THE STATEMENT -/
theorem proved : Rows.RsetKeepsUptoSaid :=
  OpenClaim.holds_of_cond 7 Try.f7 rfl rfl rfl rfl rfl rfl rfl ⟨rfl, rfl, rfl, rfl, rfl⟩ rfl rfl rfl rfl rfl (by kernel_rfl) Try.func7 (by kernel_rfl)
    (of_decide_eq_true (by kernel_rfl)) (by unfold Func.isWrapper; first | (rw [if_pos (by decide +kernel)]; kernel_rfl) | (rw [if_neg (by decide +kernel)]; exact ⟨rfl, rfl⟩))
    (fun os started H enc _ F => lifted os started H enc F)
end Go.Proofs.Ytldcjeljdmjneaa.LawRsetKeeps
