/-
  Whatever numbers there are: what is handed in stays, its spare room too, and may be written over; what is told may be written over too; a nil former tells nothing. Conditions: the arguments hold at most 1048576 values; the package's tables are laid as the program's text lays them (tied).
-/
import Derived.Test.YtmgpkjiahdacfaaDoorNormOpen
import Derived.Laws.OwnMore
import Derived.Laws.MakeOwn
namespace Go.Proofs.YtmgpkjiahdacfaaDoor.LawNormKeeps
open Go.ChangeShapes Go.WideShapes Go.ChangeAt Go.RowKit
open Utf hiding infoI32 rd_new own_form rdec_any below_drewN new_any write_any close_any
open Ucd hiding grow same Told
open Norm

def zeros (n : Nat) : List Value := List.replicate n (.int .i32 0)
theorem zeros_len (n : Nat) : (zeros n).length = n := List.length_replicate
theorem zero_cells (n : Nat) : (madeCells #[Value.int .i32 0] n) = (zeros n).toArray := by
  rw [zeros, ← toList_madeCells_one]
/-- append within the room of a block that is known whole -/
theorem wpList_append_blk {P : Program} {ops : Array Oper} {rest : List Oper} {o : Oper} {a : Act} {w : World} {Q : Exit → Act → World → Prop} (hgd : o.guard = none) (s x : Operand) (t : TypeId)
    (ho : o.op = .call { callee := .builtin .append, args := #[s, x], argTypes := #[t, t] }) (e : TypeId) (i : TypeInfo) (ht : P.underlying t = some (.slice e)) (hi : P.info? e = some i) (hsize : i.size = 1)
    (g k cap : Nat) (hs : a.eval s = .slice (some ⟨g, 0, none⟩) k cap) (cur : List Value) (hg : Blk w g e cur) (hcl : cur.length = cap)
    (A : Option Addr) (m c : Nat) (hx : a.eval x = .slice A m c) (B : Nat) (news : List Value) (hl : news.length = m) (hr : Rd w B A news) (h1 : ∀ u ∈ news, u.oneCell' = true) (hroom : k + m ≤ cap)
    (h0 : ∀ w', Blk w' g e (cur.take k ++ news ++ cur.drop (k + m)) → w.grownBy w' (some g) → wpList P ops Q rest (a.put o.dst (.slice (some ⟨g, 0, none⟩) (k + m) cap)) w') : wpList P ops Q (o :: rest) a w :=
  wpList_plain hgd fun K hK => by
    have h : ∀ w', Blk w' g e (cur.take k ++ news ++ cur.drop (k + m)) → w.grownBy w' (some g) → K (a.put o.dst (.slice (some ⟨g, 0, none⟩) (k + m) cap)) w' := fun w' h2 h3 => hK _ _ (h0 w' h2 h3)
    by_cases h0 : news = []
    · subst h0
      have hm : m = 0 := by simpa using hl.symm
      subst hm
      have hkc : k ≤ cap := by omega
      have hrun : (Builtin.append_ #[t, t] o.type #[.slice (some ⟨g, 0, none⟩) k cap, .slice A 0 c]).run P w = .ok (.slice (some ⟨g, 0, none⟩) k cap) w := by
        cases A with
        | none => simp [Builtin.append_, run_underlying ht, sizeOf, typeInfo, hi, Builtin.lenOf, Builtin.firstCells, hkc, storeCells]
        | some ad => simp [Builtin.append_, run_underlying ht, sizeOf, typeInfo, hi, Builtin.lenOf, Builtin.firstCells, loadCells, loadCellsFrom, hkc, storeCells]
      have hfin := h w (by simpa using hg) (World.grownBy.refl w _)
      unfold Oper.wp execOp
      simp only [ho, resolve, invoke, builtin, Sem.run_bind, Sem.run_pure, Result.andThen_ok, List.map_toArray, List.map_cons, List.map_nil, hs, hx, hrun]
      exact hfin
    · obtain ⟨b', o', rfl, _, hc⟩ := hr h0
      have hsrc : ∀ j v, news[j]? = some v → w.cell? ((⟨b', o', none⟩ : Addr).add j) = some v := fun j v hv => by
        have hadd : (⟨b', o', none⟩ : Addr).add j = ⟨b', o' + j, none⟩ := by unfold Addr.add; split <;> simp_all
        rw [hadd]; exact hc j v hv
      have hrun := run_append_room (P := P) w t o.type e i ht hi g k cap cur.toArray hg ⟨b', o', none⟩ m c news (by rw [hsize]; omega) hsrc h1 hroom (by simp [hsize, hcl]; omega)
      unfold Oper.wp
      simp [execOp, ho, resolve, invoke, builtin, hs, hx, hrun, Result.andThen]
      refine h _ ?_ ⟨rfl, rfl, rfl, by simp, fun j _ hk => setRow_other w g j _ (fun e => hk (by rw [e]))⟩
      have := setRow_heap w g cur.toArray (cur.take k ++ news ++ cur.drop (k + m)).toArray e _ hg
      unfold Blk
      simpa [hsize, hl] using this
theorem cs_room (l : List Int) (n : Nat) (h : (nums l).length = n) : (zeros (n + 3)).take 0 ++ nums l ++ (zeros (n + 3)).drop (0 + n) = nums l ++ zeros 3 := by
  rw [List.take_zero, List.nil_append, zeros, List.drop_replicate, zeros, show n + 3 - (0 + n) = 3 from by omega]
/-- what stands through the loops: a, the former, what was handed in -/
structure Kp (w wr : World) (G b3 : Nat) (va v3 : Value) (X P : List Int) : Prop where
  own : wr.ownsRow b3 21 1 va X.length (nums X)
  fm : Fm wr G G v3 P false
  bel : Below w.heap.size w wr
theorem Kp.chg {w wr wx : World} {G b3 : Nat} {va v3 : Value} {X P : List Int} {S : Nat → Prop} (h : Kp w wr G b3 va v3 X P) (hc : Chg wr wx S) (h1 : ∀ k, va.ownBlock = some k → ¬ S k) (h2 : ¬ S G) (h3 : ∀ k, v3.ownBlock = some k → ¬ S k) (h4 : ∀ k, k < w.heap.size → ¬ S k) : Kp w wx G b3 va v3 X P :=
  ⟨Norm.own_keep h.own hc h1, h.fm.keep hc h2 h3, h.bel.trans (hc.below h.bel.size h4)⟩
theorem nums_set (l : List Int) (k : Nat) (x : Int) : (nums l).set k (.int .i32 x) = nums (l.set k x) := by simp [nums, List.map_set]

set_option maxHeartbeats 16000000 in
set_option maxRecDepth 100000 in
theorem walk (A : Option Addr) (l : List Int) (n c : Nat) (w : World) (hL : Laid w) (hr : Rd w w.heap.size A (nums l)) (hn : l.length = n) (hsm : n ≤ 1048576) :
    Calls Tryd.prog 9 #[.slice A n c] w (Law w) := by
  obtain ⟨i0, hi, hz0, hz1, hz2⟩ := info_parts Ucd.infoI32
  have HN := Lib.hid hn; have HL := Lib.hid hL; have HR := Lib.hid hr
  have HF := Lib.hid (fixed_any w hL)
  have hgm := hL.size
  clear hn hL hr
  go_enter Tryd.func9, Tryd.ntmps9
  go_wp2_with fail
  refine HF.out.mono ?_
  rintro e w1 ⟨rfl, hb1⟩
  have HB1 := Lib.hid hb1
  clear hb1 HF
  have e1 : IntKind.i64.wrap ((n : Int) + 3) = (n : Int) + 3 := IntWalk.i64_in _ (by omega)
  have hmk : ∀ u : World, (Instr.makeSlice 22 (.int .i64 0) (.int .i64 ((n : Int) + 3))).run Tryd.prog u = .ok (.slice (some ⟨u.heap.size, 0, none⟩) 0 (n + 3)) (u.alloc (.cells (zeros (n + 3)).toArray 21)) := fun u => by
    have h := run_make (P := Tryd.prog) u 22 21 i0 (.int .i32 0) Tryd.underlying22 hi hz0 .i64 .i64 0 ((n : Int) + 3) (by omega) (by omega) (by rw [hz2]; omega) (by omega)
    have e : ((n : Int) + 3).toNat = n + 3 := by omega
    rw [e, hz1, Nat.mul_one] at h
    rw [h]
    show Result.ok _ (u.alloc (.cells (madeCells #[Value.int .i32 0] (n + 3)) _)) = _
    rw [zero_cells]; rfl
  have hsl : ∀ g : Nat, ∀ u : World, (Instr.slice 22 (.slice (some ⟨g, 0, none⟩) n (n + 3)) none (some (.int .i64 ((n : Int) + 3))) none).run Tryd.prog u = .ok (.slice (some ⟨g, 0, none⟩) (n + 3) (n + 3)) u := fun g u => by
    have he : Tryd.prog.elem 22 = 21 := by simp [Program.elem, Tryd.underlying22]
    have hadd : (⟨g, 0, none⟩ : Addr).add 0 = ⟨g, 0, none⟩ := by unfold Addr.add; split <;> simp_all
    have e : ((n : Int) + 3).toNat = n + 3 := by omega
    rw [run_slice_h u 22 (some ⟨g, 0, none⟩) n (n + 3) (by rw [he]; exact Tryd.underlying22) .i64 ((n : Int) + 3) (by omega) (by omega), he, Tryd.sizeOf21]
    simp [Result.andThen, sliced, hadd, e]
  have HZL := Lib.hid (zeros_len (n + 3))
  have HNL := Lib.hid (show (nums l).length = n by rw [nums_len, HN.out])
  have HRM := Lib.hid (fun o => ((HR.out.below HB1.out).alloc HB1.out.size o))
  go_wp2_with (at_builtin; refine wpList_append_blk rfl (.tmp 17) (.tmp 18) _ rfl 21 i0 Tryd.underlying22 hi hz1 w1.heap.size 0 (n + 3) rfl (zeros (n + 3)) (Blk.new _ _ _) HZL.out A n c rfl w.heap.size (nums l) HNL.out (HRM.out _) (nums_one _) (by omega) ?_; intro w2 hB2 hg2; rw [Nat.zero_add]; rw [cs_room l n HNL.out] at hB2; have hw2 : Below w.heap.size w w2 := Below.grown (HB1.out.alloc HB1.out.size _) hg2 (by have := HB1.out.size; simp; omega) (fun k hk => by cases hk; exact HB1.out.size); have hgw := HB1.out.size; obtain ⟨g, hg⟩ : ∃ g, g = w1.heap.size := ⟨_, rfl⟩; rw [← hg] at hB2 hgw ⊢; have hsg := hsl g; have hck : w2.cell? ⟨g, n, none⟩ = some (.int .i32 0) := (by rw [hB2.cell, List.getElem?_append_right (by rw [HNL.out]; omega), HNL.out, Nat.sub_self]; rfl); have hfk := hB2.frozen n; have HB2 := Lib.hid hB2; have HW2 := Lib.hid hw2; clear hg2 hg hB2 hw2 hmk hsl HRM)
  -- behind the store
  obtain ⟨w3, hw3⟩ : ∃ w3, w3 = w2.setCell ⟨g, n, none⟩ (.int .i32 7) := ⟨_, rfl⟩
  rw [← hw3]
  have hB3 : Blk w3 g 21 ((nums l ++ zeros 3).set n (.int .i32 7)) := by rw [hw3]; exact HB2.out.set_ n _
  have hW3 : Below w.heap.size w w3 := by rw [hw3]; exact (Chg.below ((Chg.of_below (S := fun k => k = g) HW2.out (Nat.le_refl _)).setCell (p := ⟨g, n, none⟩) (.int .i32 7) rfl) (Nat.le_refl _) (fun i hi e => by omega))
  have hlz : (nums l ++ zeros 3).length = n + 3 := by rw [List.length_append, HNL.out, zeros_len]
  have hc7 : ((nums l ++ zeros 3).set n (.int .i32 7))[n]? = some (.int .i32 7) := by rw [List.getElem?_set_self (by omega)]
  have htk : ((nums l ++ zeros 3).set n (.int .i32 7)).take n = nums l := by rw [List.take_set, List.set_eq_of_length_le (by rw [List.length_take]; omega), List.take_left' HNL.out]
  obtain ⟨cs, hcs⟩ : ∃ cs, cs = (nums l ++ zeros 3).set n (.int .i32 7) := ⟨_, rfl⟩
  have hcl : cs.length = n + 3 := by rw [hcs, List.length_set, hlz]
  rw [← hcs] at hB3 hc7 htk
  have HB3 := Lib.hid hB3; have HW3 := Lib.hid hW3; have HC7 := Lib.hid hc7; have HCL := Lib.hid hcl
  have HRG := Lib.hid (fun (u : World) (h : Blk u g 21 cs) => show Rd u u.heap.size (some ⟨g, 0, none⟩) (nums l) from fun _ => ⟨g, 0, rfl, h.lt, fun j x hx => by
    rw [Nat.zero_add, h.cell]
    rw [← htk, List.getElem?_take] at hx
    split at hx
    · exact hx
    · cases hx⟩)
  have HL3 := Lib.hid (HL.out.below hW3 HL.out.size)
  have hg3 : g < w3.heap.size := hB3.lt
  clear hw3 hB3 hW3 hlz hc7 htk hcs hcl HB2 HW2 hck hfk hsg e1 HZL
  -- a := norm.Normal(room)
  have hxl : (normal l).length ≤ 3145728 := by have h1 := fulls_len l; have := HN.out; rw [normal, nf_len]; omega
  have HNR := Lib.hid (show normal l = told [] (fulls l) ++ ord (pend [] (fulls l)) from rfl)
  have HSU := Lib.hid (show sure (normal l) = (told [] (fulls l)).length from sure_nfm (fulls l) [] marks_nil)
  refine (normal_any (some ⟨g, 0, none⟩) l n (n + 3) w3 HL3.out (HRG.out w3 HB3.out) HN.out (by omega)).mono ?_
  rintro e w4 ⟨v4, rfl, ho4, hb4⟩
  obtain ⟨X, hX⟩ : ∃ X, X = normal l := ⟨_, rfl⟩
  obtain ⟨T, hT⟩ : ∃ T, T = told [] (fulls l) := ⟨_, rfl⟩
  obtain ⟨P, hP⟩ : ∃ P, P = pend [] (fulls l) := ⟨_, rfl⟩
  rw [← hX] at ho4 hxl HNR HSU
  rw [← hT] at HNR HSU
  rw [← hP] at HNR
  have HXP := Lib.hid (show X.length = T.length + P.length by rw [HNR.out, List.length_append, ord_len])
  obtain ⟨A4, c4, rfl, _, _, _⟩ := own_form ho4
  have HX := Lib.hid hX; have HT := Lib.hid hT; have HP := Lib.hid hP
  have HO4 := Lib.hid ho4
  have HB4 := Lib.hid (HB3.out.below hb4 hg3)
  have HW4 := Lib.hid (HW3.out.trans (hb4.mono HW3.out.size))
  have HL4 := Lib.hid (HL.out.below HW4.out HL.out.size)
  have hg4 : w3.heap.size ≤ w4.heap.size := hb4.size
  clear ho4 hb4 hX hT hP HB3 HL3 HW3
  go_wp2_with fail
  refine (new_any w4).mono ?_
  rintro e w5 ⟨rfl, hw5⟩
  have hbb : Below w4.heap.size w4 w5 := by rw [hw5]; exact (Below.refl _ _).alloc (Nat.le_refl _) _
  have HF5 := Lib.hid (show Fm w5 w4.heap.size w4.heap.size (.slice none 0 0) [] false by rw [hw5]; exact new_fm w4 _ (Nat.le_refl _))
  have HO5 := Lib.hid (Ucd.own_below HO4.out hbb)
  have HB5 := Lib.hid (HB4.out.below hbb HB4.out.lt)
  have HW5 := Lib.hid (HW4.out.trans (hbb.mono HW4.out.size))
  have HL5 := Lib.hid (HL.out.below HW5.out HL.out.size)
  have HLT := Lib.hid (fun k (h : (Value.slice A4 X.length c4).ownBlock = some k) => HO4.out.lt k h)
  have hs5 := hbb.size
  have hgG : g < w4.heap.size := HB4.out.lt
  have hmG : 2 < w4.heap.size := by have := HW4.out.size; omega
  obtain ⟨G, hG⟩ : ∃ G, G = w4.heap.size := ⟨_, rfl⟩
  rw [← hG] at HF5 HLT hgG hmG hs5 hg4 ⊢
  clear hw5 hbb hG HO4 HB4 HW4 HL4
  go_wp2_with fail
  -- t := f.Write(room)
  refine (write_any G G (.slice none 0 0) [] l (some ⟨g, 0, none⟩) n (n + 3) w5 HL5.out HF5.out marks_nil (HRG.out w5 HB5.out) (fun _ _ _ h => by simp [Value.ownBlock] at h) HN.out hs5 hmG (by simp; omega)).mono ?_
  rintro e w6 ⟨v2, v3, rfl, hF6, ho6, hc6, _, hap6, _⟩
  rw [← HT.out] at ho6
  rw [← HP.out] at hF6
  have hlow : Below G w5 w6 := hc6.below hs5 (fun i hi => HF5.out.its hi)
  have HO6 := Lib.hid (Norm.own_keep HO5.out hc6 (fun k hk hi => by have := (HLT.out k hk).2; exact HF5.out.its this hi))
  have HB6 := Lib.hid (HB5.out.below hlow hgG)
  have HW6 := Lib.hid (HW5.out.trans (hlow.mono (by have := HW5.out.size; omega)))
  have HF6 := Lib.hid hF6
  obtain ⟨y, hy⟩ : ∃ y, y = T.length := ⟨_, rfl⟩
  rw [← hy] at ho6 HXP HSU
  obtain ⟨A2, c2, rfl, _, _, _⟩ := own_form ho6
  have HT6 := Lib.hid ho6
  have HAP := Lib.hid (fun k (h : (Value.slice A2 y c2).ownBlock = some k) => (hap6 k h).1)
  have HY := Lib.hid hy
  clear hF6 ho6 hc6 hap6 hlow hy HF5 HO5 HB5 HW5 HL5
  have hsm6 := same_any (some ⟨g, 0, none⟩) A l l n n (n + 3) c w6 (HRG.out w6 HB6.out) ((HR.out.below HW6.out).more HW6.out.size) HN.out HN.out (by omega) (by omega)
  have hss : ∀ L : List Int, Ucd.same L L = true := fun L => decide_eq_true rfl
  rw [hss] at hsm6
  have HS6 := Lib.hid hsm6
  clear hsm6
  go_wp2_with fail
  refine HS6.out.mono ?_
  rintro e w7 ⟨rfl, q7, hw7⟩
  have HB7 := Lib.hid (show Blk w7 g 21 cs by rw [hw7]; exact HB6.out.drewN q7)
  have hb7 : Below w6.heap.size w6 w7 := by rw [hw7]; exact below_drewN (Below.refl _ _) q7
  have HT7 := Lib.hid (Ucd.own_below HT6.out hb7)
  have HK7 := Lib.hid (show Kp w w7 G w3.heap.size (.slice A4 X.length c4) v3 X P from ⟨Ucd.own_below HO6.out hb7, HF6.out.next hb7, HW6.out.trans (hb7.mono HW6.out.size)⟩)
  have hck7 : w7.cell? ⟨g, n, none⟩ = some (.int .i32 7) := (HB7.out.cell n).trans HC7.out
  have hwG : w.heap.size ≤ G := by have := hgw; omega
  clear hw7 hb7 HS6 HB6 HT6 HO6 HF6 HW6 HRG HC7
  go_wp2_with fail
  clear hck7
  go_loopw [49] (fun i wr => ∃ k : Nat, k ≤ n ∧ i = .int .i64 k ∧ Hid (∃ cs : List Value, Blk wr g 21 cs ∧ cs.length = n + 3) ∧ Hid (Chg w7 wr (fun k => k = g))) (fun i _ => n - (intOf i).toNat)
  case atStart => exact ⟨0, Nat.zero_le _, rfl, Lib.hid ⟨cs, HB7.out, HCL.out⟩, Lib.hid (Chg.refl _ _)⟩
  case round =>
    clear HB7 HCL
    obtain ⟨k, hk, rfl, HBK, HCG⟩ := hrel
    by_cases hlt : k < n
    · obtain ⟨cs', hB, hcl⟩ := HBK.out
      obtain ⟨u, hu⟩ : ∃ u, cs'[k]? = some u := ⟨_, List.getElem?_eq_getElem (by omega)⟩
      have hck : wr.cell? ⟨g, k, none⟩ = some u := (hB.cell k).trans hu
      have hfk := hB.frozen k
      have HBn : Hid (∃ cs : List Value, Blk (wr.setCell ⟨g, k, none⟩ (.int .i32 0)) g 21 cs ∧ cs.length = n + 3) := Lib.hid ⟨cs'.set k (.int .i32 0), hB.set_ k _, by rw [List.length_set, hcl]⟩
      have HCn := Lib.hid (HCG.out.setCell (p := ⟨g, k, none⟩) (.int .i32 0) rfl)
      have HKN := Lib.hid hlt
      clear hB hcl HBK hu HCG
      go_wp2_with fail
      go_roundw
      case rel => exact ⟨k + 1, by have := HKN.out; omega, by go_num, HBn, HCn⟩
      case measure => have := HKN.out; simp [intOf]; omega
    · obtain ⟨wa, rfl⟩ : ∃ wa : World, wa = wr := ⟨_, rfl⟩
      have HTa := Lib.hid (Norm.own_keep HT7.out HCG.out (fun k hk e => by have := (HT7.out.lt k hk).1; omega))
      have HKa := Lib.hid (HK7.out.chg HCG.out (fun k hk e => by have := (HLT.out k hk).1; omega) (fun e => by omega) (fun k hk e => by have := (HK7.out.fm.own.lt k hk).1; omega) (fun k hk e => by omega))
      clear HBK HCG HT7 HK7 hk
      go_wp2_with fail
      go_loopw [58] (fun i wr => ∃ k : Nat, k ≤ y ∧ i = .int .i64 k ∧ Hid (∃ Y : List Int, wr.ownsRow G 21 1 (.slice A2 y c2) y (nums Y)) ∧ Hid (Chg wa wr (fun k => (Value.slice A2 y c2).ownBlock = some k))) (fun i _ => y - (intOf i).toNat)
      case atStart => exact ⟨0, Nat.zero_le _, rfl, Lib.hid ⟨T, HTa.out⟩, Lib.hid (Chg.refl _ _)⟩
      case round =>
        obtain ⟨k, hk, rfl, HOK, HCG⟩ := hrel
        by_cases hlt : k < y
        · obtain ⟨Y, hO⟩ := HOK.out
          obtain ⟨gt, ct, hv, _, _⟩ := World.ownsRow.form hO (by omega)
          simp only [Value.slice.injEq, true_and] at hv
          obtain ⟨rfl, rfl⟩ := hv
          have hYl := hO.1
          rw [nums_len, Nat.mul_one] at hYl
          have hck : wr.cell? ⟨gt, k, none⟩ = some (.int .i32 (Y[k]'(by omega))) := (hO.cellAt k (by omega)).trans (nums_get (by omega))
          have hfk := hO.frozenAt k
          obtain ⟨ho', _⟩ := hO.stored k (.int .i32 0)
          rw [nums_set] at ho'
          have HOn : Hid (∃ Y : List Int, (wr.setCell ⟨gt, k, none⟩ (.int .i32 0)).ownsRow G 21 1 (.slice (some ⟨gt, 0, none⟩) y c2) y (nums Y)) := Lib.hid ⟨_, ho'⟩
          have HCn := Lib.hid (HCG.out.setCell (p := ⟨gt, k, none⟩) (.int .i32 0) rfl)
          have HKN := Lib.hid hlt
          generalize (Y[k]'(by omega)) = yk at hck
          clear hO hYl ho' HOK HCG
          go_wp2_with fail
          go_roundw
          case rel => exact ⟨k + 1, by have := HKN.out; omega, by go_num, HOn, HCn⟩
          case measure => have := HKN.out; simp [intOf]; omega
        · obtain ⟨wb, rfl⟩ : ∃ wb : World, wb = wr := ⟨_, rfl⟩
          obtain ⟨Y, hO⟩ := HOK.out
          have hYl := hO.1
          rw [nums_len, Nat.mul_one] at hYl
          have HTb := Lib.hid hO
          have HYL := Lib.hid hYl
          have HG2 := Lib.hid (show (Value.slice A2 y c2).ownBlock ≠ some G from own_ne HTa.out HKa.out.fm.blk (by decide))
          have HKb := Lib.hid (HKa.out.chg HCG.out (fun k hk e => by have := (HLT.out k hk).2; have := (HTa.out.lt k e).1; omega) HG2.out (fun k hk e => HAP.out k e hk) (fun k hk e => by have := (HTa.out.lt k e).1; omega))
          clear HOK HCG hO hYl HTa HKa hk
          go_wp2_with fail
          go_loopw [7, 65] (fun t i wr => ∃ k : Nat, k ≤ 6 ∧ i = .int .i64 k ∧ ∃ F : List Int, Hid (F.length = y + k) ∧ Hid (Fs wb wr (.slice A2 y c2) G F t)) (fun _ i _ => 6 - (intOf i).toNat)
          case atStart => exact ⟨0, Nat.zero_le _, rfl, Y, Lib.hid (by rw [HYL.out, Nat.add_zero]), Lib.hid ⟨by rw [HYL.out]; exact HTb.out, fun g h => .inr h, Chg.refl _ _⟩⟩
          case round =>
            obtain ⟨k, hk, rfl, F, HFL, H⟩ := hrel
            by_cases hlt : k < 6
            · have hlt' : (k : Int) < 6 := by omega
              obtain ⟨f, hf⟩ : ∃ f, f = F.length := ⟨_, rfl⟩
              have hfb : f ≤ 4194304 := by have := HFL.out; have := HXP.out; omega
              have hGr : G ≤ wr.heap.size := by have h1 := H.out.chg.size; have h2 := HKb.out.fm.blk.lt; omega
              have HO := Lib.hid H.out.own
              rw [← hf] at HO
              have HFE := Lib.hid hf
              have HKN := Lib.hid hlt
              clear hf
              go_wp2_with (at_builtin; refine wpList_append_rd _ rfl (.tmp 67) (.tmp 68) _ rfl G 21 i0 _ 1 4 Tryd.underlying22 hi hz0 hz1 hz2 rfl (by decide) _ f (nums F) rfl (HO.out.alloc _) _ (some ⟨wr.heap.size, 0, none⟩) 1 1 [.int .i32 1] rfl rfl (Ucd.rd_new _ _ [.int .i32 1] _ rfl) (nums_one [1]) (by unfold maxLen; omega) (by omega) (by simp; omega) ?_; intro v6 w6' hown6 hgr6 hat6)
              have H6 := Lib.hid ((H.out.below ((Below.refl _ _).alloc (Nat.le_refl _) (.cells [Value.int .i32 1].toArray 21))).grown (vf' := v6) (F' := F ++ [1]) (by rw [List.length_append, nums_append, ← HFE.out]; exact hown6) hgr6 hat6)
              have HL6 := Lib.hid (show (F ++ [1]).length = y + (k + 1) by rw [List.length_append, HFL.out]; rfl)
              clear hown6 hgr6 hat6 H HO
              go_roundw
              case rel => exact ⟨k + 1, by have := HKN.out; omega, by go_num, _, HL6, H6⟩
              case measure => have := HKN.out; simp [intOf]; omega
            · obtain ⟨wd, rfl⟩ : ∃ wd : World, wd = wr := ⟨_, rfl⟩
              have HKd := Lib.hid (HKb.out.chg H.out.chg (fun k hk e => by have := (HLT.out k hk).2; have := (HTb.out.lt k e).1; omega) HG2.out (fun k hk e => HAP.out k e hk) (fun k hk e => by have := (HTb.out.lt k e).1; omega))
              have HRD := Lib.hid ((HR.out.below HKd.out.bel).more HKd.out.bel.size)
              clear H HKb HTb HFL HYL hk
              go_wp2_with fail
              refine (rnormal_any A l n c wd HRD.out HN.out (by omega)).mono ?_
              rintro e we ⟨vn, rfl, hon, hbe⟩
              rw [← HX.out] at hon
              obtain ⟨An, cn, rfl, _, _, _⟩ := own_form hon
              have HKe := Lib.hid (HKd.out.chg (Chg.of_below (S := fun _ => False) hbe (Nat.le_refl _)) (fun _ _ h => h) (fun h => h) (fun _ _ h => h) (fun _ _ h => h))
              obtain ⟨Av, cv, rfl, _, _, _⟩ := own_form HKe.out.fm.own
              have HLe := Lib.hid (HL.out.below HKe.out.bel HL.out.size)
              have hGe : G ≤ we.heap.size := Nat.le_of_lt HKe.out.fm.blk.lt
              have HON := Lib.hid hon
              have hdl : ∀ k, (Value.slice Av P.length cv).ownBlock = some k → k < wd.heap.size := fun k hk => (HKd.out.fm.own.lt k hk).2
              have HDL := Lib.hid hdl
              clear hon hbe hdl HKd HRD
              go_wp2_with fail
              refine (close_any G G _ P false we HLe.out HKe.out.fm hGe hmG (by have := HXP.out; omega)).mono ?_
              rintro e wf ⟨rfl, hoc, _, hcc⟩
              have HNf := Lib.hid (Norm.own_keep HON.out hcc (fun k hk hi => by
                rcases hi with rfl | e
                · exact own_ne HON.out HKe.out.fm.blk (by decide) hk
                · have := (HON.out.lt k hk).1; have := HDL.out k e; omega))
              have HAf := Lib.hid (Norm.own_keep HKe.out.own hcc (fun k hk hi => HKe.out.fm.its (HLT.out k hk).2 hi))
              have HBf := Lib.hid (HKe.out.bel.trans (hcc.below HKe.out.bel.size fun i hi => HKe.out.fm.its (by omega)))
              obtain ⟨x, hx⟩ : ∃ x, x = X.length := ⟨_, rfl⟩
              rw [← hx] at HNf HAf HXP hxl ⊢
              obtain ⟨pl, hpl⟩ : ∃ pl, pl = P.length := ⟨_, rfl⟩
              rw [← hpl] at hoc HXP ⊢
              have hxp := HXP.out
              have HSR := Lib.hid (show Calls Tryd.prog 25 #[.slice An x cn] wf fun e w' => e = .returned (.int .i64 y) ∧ wf = w' from by
                have := sure_any An X x cn wf (Rd.of_own HNf.out) hx.symm (by omega)
                rw [HSU.out] at this
                exact this)
              obtain ⟨A', c', hsl, _, hrd, _⟩ := cut_from HNf.out (show y ≤ x by omega)
              rw [HNR.out, HY.out, List.drop_left] at hrd
              have HPL := Lib.hid hpl
              have HSM := Lib.hid (same_any Av A' (ord P) (ord P) pl (x - y) cv c' wf (Rd.of_own hoc) hrd (by rw [ord_len, HPL.out]) (by rw [ord_len, ← HPL.out]; omega) (by omega) (by omega))
              rw [hss] at HSM
              have HXX := Lib.hid hx
              clear hoc hcc hrd hx hpl HKe HLe HON HDL hxp
              go_wp2_with fail
              refine HSR.out.mono ?_
              rintro e w' ⟨rfl, rfl⟩
              go_wp2_with fail
              refine HSM.out.mono ?_
              rintro e wg ⟨rfl, q8, hw8⟩
              have hb8 : Below wf.heap.size wf wg := by rw [hw8]; exact below_drewN (Below.refl _ _) q8
              have HBg := Lib.hid (HBf.out.trans (hb8.mono HBf.out.size))
              have HS2 := Lib.hid (same_any A4 An X X x x c4 cn wg (Rd.of_own (Ucd.own_below HAf.out hb8)) (Rd.of_own (Ucd.own_below HNf.out hb8)) HXX.out.symm HXX.out.symm (by omega) (by omega))
              rw [hss] at HS2
              clear hw8 hb8 hsl HBf HAf HNf HSM HSR
              go_wp2_with fail
              refine HS2.out.mono ?_
              rintro e wh ⟨rfl, q9, hw9⟩
              have HBh := Lib.hid (show Below w.heap.size w wh by rw [hw9]; exact below_drewN HBg.out q9)
              clear hw9
              go_wp2_with fail
              refine (Norm.write_nil A n c wh).mono ?_
              rintro e w' ⟨rfl, rfl⟩
              go_wp2_with fail
              refine (Norm.close_nil wh).mono ?_
              rintro e w' ⟨rfl, rfl⟩
              go_wp2_with fail
              refine (Norm.pending_nil wh).mono ?_
              rintro e w' ⟨rfl, rfl⟩
              go_wp2_with fail
              go_ret
              exact ⟨rfl, HBh.out⟩

theorem contract (H : Type) (enc : TypeId × Value → H) (W : World) (base : Nat) (args : Array Value) (ds gs : List (DataW H)) (before : List MemPlace)
    (hval : ∀ (j : Nat) t v, Tryd.f9.params[j]? = some t → args[j]? = some v → Value.okWide Tryd.prog W .any base t v)
    (hW : DataW.Whole enc Tryd.prog Tryd.f9.params.toList Rows.normKeepsSpec.vars false W args.toList ds gs before) (hLL : laidMetH Tryd.prog Rows.normKeepsUptoRow.laid W) (hk : Rows.uptoSmall H (ds ++ gs) = true) :
    Calls Tryd.prog 9 args W fun e W' => ∃ v, e = .returned v ∧ Rows.normKeepsSpec.post enc Tryd.prog Tryd.f9 false true false false W args v W' := by
  have hL : Laid W := laid_of hLL
  have hW' := hW
  obtain ⟨p, q, hA0, hV, rfl, hfz, hnd⟩ := hW
  have hA : DataW.TrodAll enc Tryd.prog W 0 (fun _ => true) true Tryd.f9.params.toList args.toList ds p := hA0
  rw [Tryd.params9] at hA hval
  obtain ⟨v0, vs0, d0, ds0, p0, q0, hargs, rfl, rfl, h0, r0⟩ := trodAll_cons hA
  obtain ⟨rfl, rfl, rfl⟩ := trodAll_nil r0
  obtain rfl : args = #[v0] := by cases args; simp_all
  obtain ⟨rfl, rfl⟩ := trodVars_none hV
  obtain ⟨a0, len0, cap0, rfl⟩ := okWide_slice Tryd.underlying22 (hval 0 22 v0 rfl rfl)
  have k0 := h0
  have lt0 : ∀ x ∈ p0, x.block < W.heap.size := by obtain ⟨m, hm⟩ := k0; exact DataW.trod_lt m _ _ _ hm
  obtain ⟨l0, hl0, hc0, hm0, hw0, hr0, hb0, hd0⟩ := open_nums h0
  have hbd := bulk_bound hk
  simp only [List.append_nil, Rows.uptoBulkAll] at hbd
  clear hA0
  refine (walk a0 l0 len0 cap0 W hL hr0 hl0 (by omega)).mono fun e W' ⟨he, bel⟩ => ?_
  subst he
  exact ⟨_, rfl, _, _, _, [], _, [], hW', trodAll_mk1 (shut_bool Tryd.underlying4 _), (trodAll_cons_mk (Below.trod laidOut (by kernel_rfl) (of_decide_eq_true (by kernel_rfl)) k0 bel lt0) trodAll_mk0), rfl, bel.frame _, fun h => by cases h⟩

theorem laid_met (os : Os) : laidMet Tryd.prog Rows.normKeepsUptoRow.laid ((laidWorld os).forCall (fun _ _ => 0) ⟨#[], #[.slice none 0 0], []⟩).memory :=
  laidMet_of_run' 8 (by kernel_rfl) (by kernel_rfl)
theorem reads (os : Os) {H : Type} (enc : TypeId × Value → H) : ∃ places, DataW.whole enc Tryd.prog ((laidWorld os).forCall (fun _ _ => 0) ⟨#[], #[.slice none 0 0], []⟩).memory Tryd.f9.params.toList Rows.normKeepsSpec.vars false (#[.slice none 0 0] : Array Value).toList 8 = some ([.nil], [], places) :=
  ⟨[], by kernel_rfl⟩

set_option maxRecDepth 100000 in
theorem lifted (os : Os) (started : os.Started) (H : Type) (enc : TypeId × Value → H) (F : Stop.Interp) :
    ReturnsInHanded {} Tryd.checked os 9 .any ((Rows.OpenSpec.upto Rows.normKeepsSpec).preRow enc Tryd.prog Tryd.f9 Rows.normKeepsUptoRow.domain false Rows.normKeepsUptoRow.laid) (((Rows.OpenSpec.upto Rows.normKeepsSpec).at F).post enc Tryd.prog Tryd.f9 false true false false) := by
  obtain ⟨places, hx⟩ := reads os enc
  refine returnsInHanded_of_row (C := Tryd.checked) (s := Rows.OpenSpec.upto Rows.normKeepsSpec) own started (by kernel_rfl) Tryd.func9
    (witness_row_at (enc := enc) (C := Tryd.checked) false (laidWorld os) #[.slice none 0 0] rfl (by kernel_rfl) (by kernel_rfl) (by kernel_rfl)
      (OpenSpec.preRow_of_cond 8 hx (by kernel_rfl) (fun k hk => by cases hk; kernel_rfl) (by kernel_rfl) (laid_met os))) ?_
  intro W base args ds gs before hval hW _ hcond _ hL _ _
  exact contract H enc W base args ds gs before hval hW hL (hcond _ rfl)

theorem said : Rows.NormKeepsUptoSaid :=
  OpenClaim.holds_of_cond 9 Tryd.f9 rfl rfl rfl rfl rfl rfl rfl ⟨rfl, rfl, rfl, rfl, rfl⟩ rfl rfl rfl rfl rfl (by kernel_rfl) Tryd.func9 (by kernel_rfl)
    (of_decide_eq_true (by kernel_rfl)) (by unfold Func.isWrapper; first | (rw [if_pos (by decide +kernel)]; kernel_rfl) | (rw [if_neg (by decide +kernel)]; exact ⟨rfl, rfl⟩))
    (fun os started H enc _ F => by rw [OpenClaim.pre_eq_preRow]; exact lifted os started H enc F)

/-- no parameter wants a stand-in; the program's own looks are off -/
theorem plain (f : FuncId) (fn : Func) (hf : Tryd.pinned.checked.prog.funcNamed Rows.normKeepsUptoRow.func = some f) (hfn : Tryd.pinned.checked.prog.funcs[f]? = some fn) :
    false = Tryd.pinned.checked.prog.looks [] ∧ ∀ (j : Nat) t, fn.params[j]? = some t → Tryd.pinned.checked.prog.wantsStandIn t = false := by
  obtain rfl : f = 9 := Option.some.inj ((show Tryd.prog.funcNamed Rows.normKeepsUptoRow.func = some 9 by kernel_rfl).symm.trans hf) |>.symm
  obtain rfl : fn = Tryd.f9 := (Option.some.inj (Tryd.func9.symm.trans hfn)).symm
  refine ⟨by kernel_rfl, fun j t ht => ?_⟩
  rw [Tryd.params9] at ht
  have hm := Array.mem_of_getElem? ht
  simp only [List.mem_toArray, List.mem_cons, List.not_mem_nil, or_false] at hm
  rcases hm with rfl
  all_goals first | exact (show Tryd.prog.wantsStandIn 22 = false by kernel_rfl)

/-- THE STATEMENT -/
theorem proved : Rows.NormKeepsUptoCardSaid :=
  Claim7.holds_tied_plain_at .later [] _ _ _ _ said (fun _ h => by cases h) (by kernel_rfl) (fun _ h => by cases h) normKeepsUpto_row_tie rfl ⟨rfl, rfl⟩ (by kernel_rfl) rfl plain (by kernel_rfl)
end Go.Proofs.YtmgpkjiahdacfaaDoor.LawNormKeeps
