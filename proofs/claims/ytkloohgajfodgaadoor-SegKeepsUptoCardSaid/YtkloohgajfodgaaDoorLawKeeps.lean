/-
  Whatever bytes there are, cut wherever: what is handed in and told may be written over; a nil segmenter. Conditions: the argument holds at most 1048576 values; the package's tables are laid as the program's text lays them (tied).
-/
import Derived.Test.YtkloohgajfodgaaDoorNormOpens
import Derived.Test.YtkloohgajfodgaaDoorSegFixed
import Derived.Test.YtkloohgajfodgaaDoorSegDoc
import Derived.Laws.OwnMore
import Derived.Deep.DeepCutAuto
namespace Go.Proofs.YtkloohgajfodgaaDoor.LawSegKeeps
open Go.ChangeShapes Go.WideShapes Go.ChangeAt Go.RowKit
open Utf hiding infoI32 rd_new own_form rdec_any below_drewN new_any write_any close_any
open Ucd hiding grow same Told
open Norm hiding new_any write_any close_any pending_any pending_nil write_nil write_closed close_nil fixed_any write_at close_at
open Seg

theorem i64_bounds {n : Int} (h : (Lit.int .i64 n).wf = true) : -9223372036854775808 ≤ n ∧ n ≤ 9223372036854775807 := by simpa [Lit.wf, IntKind.min, IntKind.max, IntKind.signed, IntKind.bits] using h
theorem zero_cells (n : Nat) : (madeCells #[Value.int .u8 0] n) = (List.replicate n (Value.int .u8 0)).toArray := by
  rw [← toList_madeCells_one]
theorem own_made (u : World) (base g n : Nat) (hb : base ≤ u.heap.size) (hg : g = u.heap.size) (hn : n ≤ 9223372036854775807) : (u.alloc (.cells (List.replicate n (Value.int .u8 0)).toArray 5)).ownsRow base 5 1 (.slice (some ⟨g, 0, none⟩) 0 n) 0 [] := by
  subst hg
  exact ⟨rfl, .inr ⟨u.heap.size, n, _, rfl, hb, heap_alloc_new u _, Nat.zero_le _, by simpa [maxLen] using hn, by simp, by simp⟩⟩
set_option maxRecDepth 100000 in
theorem rd_cut {w : World} {B n c : Nat} {A : Option Addr} {l : List UInt8} (h : Rd w B A (bys l)) (hc : l.length ≤ c) : Rd w B (if c = n then A else A.map (fun x => x.add n)) (bys (l.drop n)) := by
  intro hne
  have hlt : n < l.length := by
    rcases Nat.lt_or_ge n l.length with h' | h'
    · exact h'
    · rw [List.drop_eq_nil_of_le h'] at hne; exact absurd rfl hne
  obtain ⟨b, o, rfl, hb⟩ := h.form (by rw [bys_len]; omega)
  have hd := h.drop_ n
  rw [bys_drop] at hd
  obtain ⟨b', o', e, hb', hc'⟩ := hd hne
  rw [if_neg (by omega)]
  refine ⟨b', o', ?_, hb', hc'⟩
  rw [← e]
  simp only [Option.map_some, Option.some.injEq]
  unfold Addr.add; split <;> simp_all
/-- 'b[n:]' -/
theorem slice_from {w : World} {B n m c : Nat} {A : Option Addr} {l : List UInt8} (h : Rd w B A (bys l)) (hl : l.length = m) (hn : n ≤ m) (hc : m ≤ c) :
    ∃ A', (∀ x : World, (Instr.slice 22 (.slice A m c) (some (.int .i64 n)) none none).run Tryd.prog x = .ok (.slice A' (m - n) (c - n)) x) ∧ Rd w B A' (bys (l.drop n)) := by
  have he : Tryd.prog.elem 22 = 5 := by simp [Program.elem, Tryd.underlying22]
  refine ⟨_, fun x => ?_, rd_cut (n := n) (c := c) h (by omega)⟩
  rw [run_slice_l x 22 A m c (by rw [he]; exact Tryd.underlying22) .i64 (n : Int) (by omega) (by omega), he, Tryd.sizeOf5]
  simp [Result.andThen, sliced]
set_option maxRecDepth 100000 in
/-- 'in[:n:n]' -/
theorem slice_three {w : World} {base n m c : Nat} {A : Option Addr} {l : List UInt8} (h : w.ownsRow base 5 1 (.slice A m c) m (bys l)) (hn : n ≤ m) :
    ∃ A', (∀ x : World, (Instr.slice 22 (.slice A m c) none (some (.int .i64 n)) (some (.int .i64 n))).run Tryd.prog x = .ok (.slice A' n n) x) ∧ Rd w w.heap.size A' (bys (l.take n)) := by
  have he : Tryd.prog.elem 22 = 5 := by simp [Program.elem, Tryd.underlying22]
  obtain ⟨A0, c0, hv, hmc, _, hr⟩ := own_form h
  injection hv with hv1 _ hv2
  subst hv1 hv2
  have hA : (if n = 0 then A else A.map fun a => a.add 0) = A := by
    split
    · rfl
    · cases A with
      | none => rfl
      | some a =>
        obtain ⟨b, o, e, _⟩ : ∃ b o, some a = some (⟨b, o, none⟩ : Addr) ∧ b < w.heap.size := by
          have hl := h.1
          rw [bys_len, Nat.mul_one] at hl
          exact hr.form (by rw [bys_len]; omega)
        injection e with e
        subst e
        rw [Option.map_some]; congr 1
  refine ⟨A, fun x => ?_, ?_⟩
  · rw [run_slice_hm x 22 A m c (by rw [he]; exact Tryd.underlying22) .i64 .i64 (n : Int) (n : Int) (by omega) (by omega) (by omega), he, Tryd.sizeOf5]
    simp [Result.andThen, sliced, hA]
  · have h1 := hr.take_ n
    rwa [bys_take] at h1

set_option maxRecDepth 100000 in
theorem seg_to2 {w : World} {B n c t : Nat} {A : Option Addr} {S : List Sg} (h : Rd w B A (sgs S)) (ht : t ≤ n) (hc : n ≤ c) :
    ∃ A1, (∀ u : World, (Instr.slice 24 (.slice A n c) none (some (.int .i64 t)) none).run Tryd.prog u = .ok (.slice A1 t c) u) ∧ Rd w B A1 (sgs (S.take t)) ∧ ∀ k, A1.map (·.block) = some k → A.map (·.block) = some k := by
  have he : Tryd.prog.elem 24 = 47 := by simp [Program.elem, Tryd.underlying24]
  refine ⟨if c = 0 then A else A.map fun a => a.add 0, fun u => ?_, ?_, fun k h => ?_⟩
  · rw [run_slice_h u 24 A n c (by rw [he]; exact Tryd.underlying24) .i64 (t : Int) (by omega) (by omega), he, Tryd.sizeOf47]
    simp [Result.andThen, sliced]
  · have hA : (if c = 0 then A else A.map fun a => a.add 0) = A := by
      split
      · rfl
      · cases A with
        | none => rfl
        | some a => rw [Option.map_some]; congr 1
    rw [hA, ← sgs_take]
    exact h.take_ _
  · split at h
    · exact h
    · cases A with
      | none => exact h
      | some a =>
        rw [Option.map_some, Option.map_some] at h
        rw [Option.map_some, ← h]
        unfold Addr.add
        split <;> rfl
/-- what good answers -/
def Goods2 (w : World) (A0 : Option Addr) (gs : List (List Pt)) (lim : Nat) (e : Ending) (w' : World) : Prop :=
  ∃ A n c, (∀ k, A.map (·.block) = some k → A0.map (·.block) = some k) ∧ e = .returned (.tuple #[.slice A n c, .bool (badG flen lim gs)]) ∧ n = (okG flen lim gs).length ∧ Rd w' w'.heap.size A (sgs ((okG flen lim gs).map sgOf)) ∧ n ≤ c ∧ c ≤ 9223372036854775807 ∧ Below w.heap.size w w'
set_option maxHeartbeats 4000000 in
set_option maxRecDepth 100000 in
theorem good2_any (A : Option Addr) (gs : List (List Pt)) (lim n c : Nat) (w : World) (hr : Rd w w.heap.size A (sgs (gs.map sgOf))) (hn : gs.length = n) (hc : n ≤ c) (hcm : c ≤ 9223372036854775807) (hl : ∀ g ∈ gs, g.length ≤ 1073741824) :
    Calls Tryd.prog 34 #[.slice A n c, .int .i64 lim] w (Goods2 w A gs lim) := by
  have HR := Lib.hid hr; have HN := Lib.hid hn; have HL := Lib.hid hl
  clear hr hn hl
  go_enter Tryd.func34, Tryd.ntmps34
  go_wp2_with fail
  go_loopw [6] (fun i wr => ∃ k : Nat, k ≤ n ∧ i = .int .i64 k ∧ Hid (∀ g ∈ gs.take k, flen g ≤ lim) ∧ Hid (Below w.heap.size w wr)) (fun i _ => n - (intOf i).toNat)
  case atStart => exact ⟨0, Nat.zero_le _, rfl, Lib.hid (by simp), Lib.hid (Below.refl _ _)⟩
  case round =>
    obtain ⟨k, hk, rfl, HA, HB⟩ := hrel
    by_cases hlt : k < n
    · have hkl : k < gs.length := by rw [HN.out]; exact hlt
      have hkm : k < (gs.map sgOf).length := by rw [List.length_map]; exact hkl
      obtain ⟨b, o, rfl, hbl⟩ := HR.out.form (by rw [sgs_len]; omega)
      obtain ⟨p1, p2, p3⟩ := Rd_sg (HR.out.below HB.out) hkm
      rw [List.getElem_map] at p1 p2 p3
      have HT := Lib.hid (show gs.take (k + 1) = gs.take k ++ [gs[k]] from List.take_succ_eq_append_getElem hkl)
      have hsp : gs = gs.take k ++ gs[k] :: gs.drop (k + 1) := by rw [← List.drop_eq_getElem_cons hkl, List.take_append_drop]
      have HSP := Lib.hid hsp
      have hgl := HL.out gs[k] (List.getElem_mem hkl)
      obtain ⟨g, hg⟩ : ∃ g, g = gs[k] := ⟨_, rfl⟩
      rw [← hg] at p1 p2 p3 HT hgl HSP
      change wr.cell? ⟨b, o + k * 3, none⟩ = some (.string (says g)) at p1
      change wr.cell? ⟨b, o + k * 3 + 1, none⟩ = some (.int .i64 (beg g)) at p2
      change wr.cell? ⟨b, o + k * 3 + 2, none⟩ = some (.int .i64 (fin g)) at p3
      have HLN := Lib.hid (length_at g (beg g) (fin g) wr hgl)
      obtain ⟨A1, hsl, hr1, hA1⟩ := seg_to2 (t := k) HR.out hk hc
      have HA1B := Lib.hid hA1
      have HR1 := Lib.hid hr1
      generalize says g = sg at *
      obtain ⟨y, hy⟩ : ∃ y : Int, y = (beg g : Int) := ⟨_, rfl⟩
      obtain ⟨z, hz⟩ : ∃ z : Int, z = (fin g : Int) := ⟨_, rfl⟩
      rw [← hy] at p2 HLN
      rw [← hz] at p3 HLN
      obtain ⟨f, hf⟩ : ∃ f, f = flen g := ⟨_, rfl⟩
      rw [← hf] at HLN
      have HF := Lib.hid hf
      have hfb : f ≤ 3221225472 := by have := flen_le g; omega
      clear hkl hkm hsp hg hy hz hf hr1 hgl hbl hA1
      by_cases hbig : lim < f
      · have hd : decide (lim < f) = true := decide_eq_true hbig
        have hst := okG_stop flen lim HA.out (x := g) (by rw [← HF.out]; exact hbig) (gs.drop (k + 1))
        rw [← HSP.out] at hst
        have HST := Lib.hid hst
        have HKT := Lib.hid (show k = (gs.take k).length by rw [List.length_take]; have := HN.out; omega)
        clear hst hbig
        go_wp2_with (go_at_call 40; refine HLN.out.mono ?_; rintro e1 w1 ⟨rfl, hb1⟩; have HB1 := Lib.hid (HB.out.trans (hb1.mono HB.out.size)); clear hb1)
        go_ret2
        refine ⟨A1, k, c, HA1B.out, by rw [HST.out.2]; rfl, by rw [HST.out.1]; exact HKT.out, ?_, by omega, hcm, HB1.out⟩
        rw [HST.out.1, List.map_take]
        exact (HR1.out.below HB1.out).more HB1.out.size
      · have hd : decide (lim < f) = false := decide_eq_false hbig
        have HA1 := Lib.hid (show ∀ x ∈ gs.take (k + 1), flen x ≤ lim from fun x hx => by
          rw [HT.out] at hx
          rcases List.mem_append.1 hx with hx | hx
          · exact HA.out x hx
          · rw [List.mem_singleton.1 hx, ← HF.out]; omega)
        clear hbig HA
        go_wp2_with (go_at_call 40; refine HLN.out.mono ?_; rintro e1 w1 ⟨rfl, hb1⟩; have HB1 := Lib.hid (HB.out.trans (hb1.mono HB.out.size)); clear hb1)
        go_roundw
        case rel => exact ⟨k + 1, by omega, by go_num, HA1, HB1⟩
        case measure => simp [intOf]; omega
    · have HXT := Lib.hid (show gs.take k = gs by rw [List.take_of_length_le (by rw [HN.out]; omega)])
      rw [HXT.out] at HA
      have HOK := Lib.hid (okG_all flen lim HA.out)
      go_wp2
      go_ret2
      refine ⟨A, n, c, fun _ h => h, by rw [HOK.out.2]; rfl, by rw [HOK.out.1]; exact HN.out.symm, ?_, hc, hcm, HB.out⟩
      rw [HOK.out.1]
      exact (HR.out.below HB.out).more HB.out.size
/-- Split's answer, as the document's slice reads -/
def RSplit2 (w : World) (lim : Int) (l : List UInt8) (e : Ending) (w' : World) : Prop :=
  ∃ A n c, (∀ k, A.map (·.block) = some k → w.heap.size ≤ k) ∧ e = .returned (.tuple #[.slice A n c, .int .i64 (spE lim l)]) ∧ n = (spS lim l).length ∧ Rd w' w'.heap.size A (sgs (spS lim l)) ∧ Below w.heap.size w w'
set_option maxHeartbeats 4000000 in
set_option maxRecDepth 100000 in
theorem rsplit2_any (lim : Int) (l : List UInt8) (A : Option Addr) (m c : Nat) (w : World)
    (hr : Rd w w.heap.size A (bys l)) (hm : l.length = m) (hsm : m ≤ 134217728) :
    Calls Tryd.prog 13 #[.slice A m c, .int .i64 lim] w (RSplit2 w lim l) := by
  by_cases hlim : 1 ≤ lim ∧ lim ≤ 64
  · have HA := Lib.hid (all_any A l m c w hr hm hsm)
    have HGS := Lib.hid (fun g (hg : g ∈ grp (dec false 0 l)) => show g.length ≤ 1073741824 by have := grp_size false l hg; omega)
    have hgl := grp_len false l
    obtain ⟨lm, rfl⟩ : ∃ lm : Nat, lim = lm := ⟨lim.toNat, by omega⟩
    have HE := Lib.hid (show spE lm l = if badS lm l then 6 else 0 by unfold spE; rw [if_pos hlim]; rfl)
    have HS := Lib.hid (show spS lm l = (okS lm l).map sgOf by unfold spS; rw [if_pos hlim]; rfl)
    have d1 : decide ((lm : Int) < 1) = false := decide_eq_false (by omega)
    have d2 : decide (64 < (lm : Int)) = false := decide_eq_false (by omega)
    have n1 : ¬ (lm : Int) < 1 := by omega
    have n2 : ¬ 64 < (lm : Int) := by omega
    have HOKE := Lib.hid (show okS lm l = okG flen lm (grp (dec false 0 l)) from rfl)
    have HBDE := Lib.hid (show badS lm l = badG flen lm (grp (dec false 0 l)) from rfl)
    generalize grp (dec false 0 l) = gs at HA HGS hgl HOKE HBDE
    obtain ⟨gl, hgl2⟩ : ∃ gl, gl = gs.length := ⟨_, rfl⟩
    have HGL := Lib.hid hgl2
    clear hr hm hlim hgl hgl2
    go_enter Tryd.func13, Tryd.ntmps13
    go_wp2_with fail
    refine HA.out.mono ?_
    rintro e1 w1 ⟨v, rfl, ho, hb1⟩
    rw [List.length_map, ← HGL.out] at ho
    obtain ⟨A1, c1, rfl, hc1, hcm1, hr1⟩ := own_form ho
    have HA1 := Lib.hid (show ∀ k, A1.map (·.block) = some k → w.heap.size ≤ k from fun k hk => by
      cases A1 with
      | none => cases hk
      | some a => exact (ho.lt k (by simpa [Value.ownBlock] using hk)).1)
    have HR1 := Lib.hid hr1
    have HB1 := Lib.hid hb1
    have HG := Lib.hid (good2_any A1 gs lm gl c1 w1 HR1.out HGL.out.symm hc1 hcm1 HGS.out)
    clear ho hr1 hb1 hc1 HA
    go_wp2_with fail
    refine HG.out.mono ?_
    rintro e2 w2 ⟨A2, n2', c2, hA2, rfl, hn2, hr2, _, _, hb2⟩
    rw [← HOKE.out] at hn2 hr2
    have HA2 := Lib.hid (show ∀ k, A2.map (·.block) = some k → w.heap.size ≤ k from fun k hk => HA1.out k (hA2 k hk))
    have HN2 := Lib.hid hn2
    have HR2 := Lib.hid hr2
    have HB2 := Lib.hid (HB1.out.trans (hb2.mono HB1.out.size))
    clear hn2 hr2 hb2 HG hA2
    cases hbb : badG flen lm gs
    all_goals
      have HBB := Lib.hid hbb
      clear hbb
      go_wp2_with fail
      go_ret2
      exact ⟨A2, n2', c2, HA2.out, by rw [HE.out, HBDE.out, HBB.out]; rfl, by rw [HS.out, List.length_map]; exact HN2.out, by rw [HS.out]; exact HR2.out, HB2.out⟩
  · have HE := Lib.hid (show spE lim l = 1 by unfold spE; rw [if_neg hlim])
    have HS := Lib.hid (show spS lim l = [] by unfold spS; rw [if_neg hlim])
    by_cases h1 : lim < 1
    · have d1 : decide (lim < 1) = true := decide_eq_true h1
      clear hr hm hlim
      go_enter Tryd.func13, Tryd.ntmps13
      go_wp2_with fail
      go_ret2
      exact ⟨none, 0, 0, (fun _ h => by cases h), by rw [HE.out]; rfl, by rw [HS.out]; rfl, by rw [HS.out]; exact Rd.empty _ _ _, Below.refl _ _⟩
    · have h2 : 64 < lim := by omega
      have d1 : decide (lim < 1) = false := decide_eq_false h1
      have d2 : decide (64 < lim) = true := decide_eq_true h2
      clear hr hm hlim
      go_enter Tryd.func13, Tryd.ntmps13
      go_wp2_with fail
      go_ret2
      exact ⟨none, 0, 0, (fun _ h => by cases h), by rw [HE.out]; rfl, by rw [HS.out]; rfl, by rw [HS.out]; exact Rd.empty _ _ _, Below.refl _ _⟩
theorem wpList_append_rdg {P : Program} (w : World) {ops : Array Oper} {rest : List Oper} {o : Oper} {a : Act} {Q : Exit → Act → World → Prop} (hw : Region.wanted o (yielded ops a.tmps) = true) (s x : Operand) (t : TypeId)
    (ho : o.op = .call { callee := .builtin .append, args := #[s, x], argTypes := #[t, t] })
    (base : Nat) (e : TypeId) (i : TypeInfo) (z : Value) (size bytes : Nat) (ht : P.underlying t = some (.slice e)) (hi : P.info? e = some i) (hz : i.zero = some z)
    (hsize : i.size = size) (hby : i.bytes = bytes) (hzs : z.cells.size = size) (hsz : 0 < size)
    (v : Value) (n : Nat) (xs : List Value) (hs : a.eval s = v) (hown : w.ownsRow base e size v n xs)
    (B : Nat) (A : Option Addr) (m c : Nat) (news : List Value) (hx : a.eval x = .slice A m c) (hl : news.length = m * size) (hr : Rd w B A news) (h1 : ∀ u ∈ news, u.oneCell' = true)
    (h63 : n + m ≤ maxLen) (hbytes : (n + m) * bytes ≤ 140737488355328) (hbase : base ≤ w.heap.size)
    (h : ∀ v' w', w'.ownsRow base e size v' (n + m) (xs ++ news) → w.grownBy w' v.ownBlock → (v'.ownBlock = v.ownBlock ∨ v'.ownBlock = some w.heap.size) → wpList P ops Q rest (a.put o.dst v') w') : wpList P ops Q (o :: rest) a w := by
  unfold wpList
  rw [if_pos hw]
  exact .inl (wp_append_rd w s x t ho base e i z size bytes ht hi hz hsize hby hzs hsz v n xs hs hown B A m c news hx hl hr h1 h63 hbytes hbase h)
theorem rd_off {w w' : World} {B : Nat} {A : Option Addr} {xs : List Value} {row : Option Nat} (h : Rd w B A xs) (hB : B ≤ w.heap.size) (hg : w.grownBy w' row) (hne : ∀ k, A.map (·.block) = some k → some k ≠ row) : Rd w' w'.heap.size A xs := fun hx => by
  obtain ⟨b, o, e, h2, h3⟩ := h hx
  subst e
  exact ⟨b, o, rfl, by have := hg.size; omega, fun j u hu => (World.cell?_of_block (a := ⟨b, o + j, none⟩) (hg.block b (by omega) (hne b rfl))).trans (h3 j u hu)⟩
theorem rd_off2 {w w' : World} {B : Nat} {A : Option Addr} {xs : List Value} {row : Option Nat} (h : Rd w B A xs) (hB : B ≤ w.heap.size) (hg : w.grownBy w' row) (hne : xs ≠ [] → ∀ k, A.map (·.block) = some k → some k ≠ row) : Rd w' w'.heap.size A xs := fun hx => rd_off h hB hg (hne hx) hx
set_option maxHeartbeats 16000000 in
set_option maxRecDepth 100000 in
theorem walk (A : Option Addr) (l : List UInt8) (m c : Nat) (z : Int) (w : World) (hL : Laid w) (hr : Rd w w.heap.size A (bys l)) (hm : l.length = m) (hc : m ≤ c) (hcm : c ≤ 9223372036854775807) (hsm : m ≤ 1048576) (hz : -9223372036854775808 ≤ z ∧ z ≤ 9223372036854775807) :
    Calls Tryd.prog 7 #[.slice A m c, .int .i64 z] w (Law w) := by
  obtain ⟨i0, hi, hz0, hz1, hz2⟩ := info_parts Utf.infoU8
  obtain ⟨i1, hi', hy0, hy1, hy2⟩ := info_parts infoSg
  have HF := Lib.hid (fixed_any w hL)
  have HL := Lib.hid hL
  have HR := Lib.hid hr
  have HM := Lib.hid hm
  have HC := Lib.hid hc
  have HW := Lib.hid (fun (u : World) (h : Rd u u.heap.size A (bys l)) => rsplit2_any 64 l A m c u h hm (by omega))
  have HSPL := Lib.hid (show (spS 64 l).length ≤ m by
    unfold spS
    split
    · rw [List.length_map, ← hm]; exact okS_len _ l
    · simp)
  have hsz := hL.size
  have HSZ := Lib.hid hsz
  obtain ⟨zl, zh⟩ := hz
  clear hL hr hm
  go_enter Tryd.func7, Tryd.ntmps7
  go_wp2_with fail
  refine HF.out.mono ?_
  rintro e w1 ⟨rfl, hb1⟩
  have HB1 := Lib.hid hb1
  clear hb1 HF
  have hnn : m ≠ 0 → ∃ n : Nat, wrap64 ((IntKind.u64.wrap z).tmod ((m : Int) + 1)) = n ∧ n ≤ m := by
    intro _
    have h0 : 0 ≤ IntKind.u64.wrap z := by rw [IntKind.wrap_u64]; exact Int.emod_nonneg _ (by decide)
    generalize IntKind.u64.wrap z = u at h0 ⊢
    have h1 : u.tmod ((m : Int) + 1) = u % ((m : Int) + 1) := Int.tmod_eq_emod_of_nonneg h0
    have h2 : 0 ≤ u % ((m : Int) + 1) := Int.emod_nonneg _ (by omega)
    have h3 : u % ((m : Int) + 1) < (m : Int) + 1 := Int.emod_lt_of_pos _ (by omega)
    refine ⟨(u % ((m : Int) + 1)).toNat, ?_, by omega⟩
    rw [h1, IntWalk.wrap64_in _ ⟨by omega, by omega⟩]
    omega
  have HNN := Lib.hid hnn
  clear hnn zl zh
  go_upto_if 26 with fail
  go_cut [5] (fun s5 wx => ∃ n : Nat, n ≤ m ∧ s5 = .int .i64 n ∧ Hid (wx = w1))
  case first =>
    by_cases hm0 : m = 0
    · subst hm0
      go_wp2_with fail
      go_meet
      exact ⟨0, Nat.le_refl _, rfl, Lib.hid rfl⟩
    · have hmp : (0 : Int) < (m : Int) := by omega
      obtain ⟨n, hn, hnm⟩ := HNN.out hm0
      have HNn := Lib.hid hn
      clear hn hm0
      go_wp2_with fail
      go_meet
      exact ⟨n, hnm, by rw [HNn.out], Lib.hid rfl⟩
  case rest =>
    obtain ⟨n, hnm, rfl, hw⟩ := hcut
    obtain rfl := hw.out
    clear HNN hw
    have e1 : IntKind.i64.wrap ((m : Int) + 4) = (m : Int) + 4 := IntWalk.i64_in _ (by omega)
    have hmk : ∀ u : World, (Instr.makeSlice 22 (.int .i64 0) (.int .i64 ((m : Int) + 4))).run Tryd.prog u = .ok (.slice (some ⟨u.heap.size, 0, none⟩) 0 (m + 4)) (u.alloc (.cells (List.replicate (m + 4) (Value.int .u8 0)).toArray 5)) := fun u => by
      have h := run_make (P := Tryd.prog) u 22 5 i0 (.int .u8 0) Tryd.underlying22 hi hz0 .i64 .i64 0 ((m : Int) + 4) (by omega) (by omega) (by rw [hz2]; omega) (by omega)
      have e : ((m : Int) + 4).toNat = m + 4 := by omega
      rw [e, hz1, Nat.mul_one] at h
      rw [h]
      show Result.ok _ (u.alloc (.cells (madeCells #[Value.int .u8 0] (m + 4)) _)) = _
      rw [zero_cells]; rfl
    have hs1 := HB1.out.size
    go_wp2_with (at_builtin; refine wpList_append_rd _ rfl (.tmp 38) (.tmp 39) _ rfl wc.heap.size 5 i0 _ 1 1 Tryd.underlying22 hi hz0 hz1 hz2 rfl (by decide) (.slice (some ⟨wc.heap.size, 0, none⟩) 0 (m + 4)) 0 [] rfl (own_made wc wc.heap.size wc.heap.size (m + 4) (Nat.le_refl _) rfl (by omega)) w.heap.size A m c (bys l) rfl (by rw [bys_len, HM.out, Nat.mul_one]) ((HR.out.below HB1.out).alloc hs1 _) (bys_one _) (by unfold maxLen; omega) (by omega) (by simp) ?_; intro v5 w5 hown5 hgr5 hat5; simp only [Nat.zero_add, List.nil_append] at hown5; obtain ⟨A5, c5, rfl, hc5, hcm5, hr5⟩ := own_form hown5)
    have HB5 := Lib.hid ((HB1.out.alloc hs1 (.cells (List.replicate (m + 4) (Value.int .u8 0)).toArray 5)).grown hgr5 (by simp; omega) (fun g hg => by injection hg with hg; simp at hg; omega))
    have HO5 := Lib.hid hown5
    clear hown5 hgr5 hat5 hr5 hmk e1
    go_wp2_with fail
    refine (new_good 64 w5 (by decide) (by decide)).mono ?_
    rintro e w6 ⟨sb, db, rfl, hS6, hb6⟩
    have HLV := Lib.hid (live_new (lim := 64) hS6)
    have HB6 := Lib.hid (HB5.out.trans (hb6.mono HB5.out.size))
    have HO6 := Lib.hid (Ucd.own_below HO5.out hb6)
    have HS56 := Lib.hid hb6.size
    obtain ⟨b5, hb5⟩ : ∃ b, b = w5.heap.size := ⟨_, rfl⟩
    rw [← hb5] at HLV HS56
    have HB5E := Lib.hid hb5
    have HL6 := Lib.hid (HL.out.next HB6.out)
    have HGB := Lib.hid (show 2 < b5 by rw [hb5]; exact Nat.lt_of_lt_of_le HSZ.out HB5.out.size)
    have HWB := Lib.hid (show w.heap.size ≤ b5 by rw [hb5]; exact HB5.out.size)
    clear hS6 hb6 hb5 HO5
    obtain ⟨A6, hsl6, hr6⟩ := slice_three HO6.out hnm
    have HR6 := Lib.hid hr6
    have hlt' : (l.take n).length = n := by rw [List.length_take, HM.out]; omega
    have HLT := Lib.hid hlt'
    clear hr6 hlt'
    go_wp2_with fail
    refine (live_write b5 sb db 64 n n (.slice none 0 0) [] (l.take n) [] A6 w6 HL6.out HLV.out HR6.out HLT.out (Nat.le_refl _) (by omega) HS56.out HGB.out (by simp; omega)).mono ?_
    rintro e w7 ⟨v7, T1, b1, rfl, ho7, hch7, hf7, ht7⟩
    have HC7 := Lib.hid hch7
    have HO7 := Lib.hid ho7
    have HIN7 := Lib.hid (Norm.own_keep HO6.out hch7 (HLV.out.apart HO6.out (by decide) (by decide) (by decide)))
    have HB7 := Lib.hid (HB6.out.trans (hch7.below (B := w.heap.size) HB6.out.size (fun i hi => HLV.out.hers (by have := HWB.out; omega))))
    have HF7 := Lib.hid hf7
    have HT7 := Lib.hid ht7
    clear ho7 hch7 hf7 ht7 hsl6
    have hin : ∃ R, 0 < n → A5 = some ⟨R, 0, none⟩ ∧ ∃ cs : List Value, Blk w7 R 5 cs ∧ cs.length = c5 := by
      rcases HIN7.out.2 with ⟨_, h1⟩ | ⟨g, cap, cur, hv, h1, h2, h3, h4, h5, h6⟩
      · exact ⟨0, fun h => by omega⟩
      · injection hv with hv1 _ hv2
        subst hv1 hv2
        exact ⟨g, fun _ => ⟨rfl, cur.toList, by simpa [Blk] using h2, by simpa using h5⟩⟩
    obtain ⟨R, hR⟩ := hin
    have HRI := Lib.hid hR
    have HRB := Lib.hid (show 0 < n → (Value.slice A5 m c5).ownBlock = some R ∧ w.heap.size ≤ R ∧ R < w6.heap.size from fun h => by
      have e := (hR h).1
      have h1 : (Value.slice A5 m c5).ownBlock = some R := by rw [e]; rfl
      have h2 := HO6.out.lt R h1
      exact ⟨h1, Nat.le_trans hs1 h2.1, h2.2⟩)
    clear hR
    cases b1 with
    | true =>
      have HSP1 := Lib.hid (show okS 64 l = T1 ∧ badS 64 l = true from by
        have hda := dec_append false (l.take n) (l.drop n) 0
        rw [List.take_append_drop] at hda
        have h := (HT7.out (by first | trivial | rfl)).2 (dec false (0 + eat (l.take n)) ((l.take n).drop (eat (l.take n)) ++ l.drop n))
        rw [List.nil_append, ← hda, List.nil_append] at h
        exact h)
      go_wp2_with fail
      go_loopw [55] (fun vi wr => ∃ k : Nat, k ≤ n ∧ vi = .int .i64 k ∧ Hid (0 < n → ∃ cs : List Value, Blk wr R 5 cs ∧ cs.length = c5) ∧ Hid (Chg w7 wr (fun j => 0 < n ∧ j = R))) (fun vi _ => n - (intOf vi).toNat)
      case atStart => exact ⟨0, Nat.zero_le _, rfl, Lib.hid (fun h => (HRI.out h).2), Lib.hid (Chg.refl _ _)⟩
      case round =>
        obtain ⟨w9, rfl⟩ : ∃ w9 : World, w9 = wr := ⟨_, rfl⟩
        obtain ⟨k, hk, rfl, HCS, HCH⟩ := hrel
        by_cases hlt : k < n
        · have hn0 : 0 < n := by omega
          obtain ⟨hA5, _⟩ := HRI.out hn0
          subst hA5
          obtain ⟨cs, hB, hcl⟩ := HCS.out hn0
          obtain ⟨u, hu⟩ : ∃ u, cs[k]? = some u := ⟨_, List.getElem?_eq_getElem (by omega)⟩
          have hck : w9.cell? ⟨R, k, none⟩ = some u := (hB.cell k).trans hu
          have hfk := hB.frozen k
          have hkm : k < m := by omega
          have HBn : Hid (0 < n → ∃ cs : List Value, Blk (w9.setCell ⟨R, k, none⟩ (.int .u8 120)) R 5 cs ∧ cs.length = c5) :=
            Lib.hid fun _ => ⟨cs.set k (.int .u8 120), hB.set_ k _, by rw [List.length_set, hcl]⟩
          have hC9 := Lib.hid (HCH.out.setCell (p := ⟨R, k, none⟩) (.int .u8 120) ⟨hn0, rfl⟩)
          clear hB hcl HCS hu HCH
          go_wp2
          go_roundw
          case rel => exact ⟨k + 1, by omega, by go_num, HBn, hC9⟩
          case measure => simp [intOf]; omega
        · have HB9 := Lib.hid (HB7.out.trans (HCH.out.below (B := w.heap.size) HB7.out.size (fun i hi h => by have := (HRB.out h.1).2.1; have := h.2; omega)))
          have HX9 := Lib.hid (Norm.own_keep HO7.out HCH.out (fun g hg h => by have := (HO7.out.lt g hg).1; have := (HRB.out h.1).2.2; have := h.2; omega))
          obtain ⟨A9, hsl9, hr9⟩ := slice_from (n := n) (HR.out.below HB9.out) HM.out hnm HC.out
          have HR9 := Lib.hid hr9
          have hxl : (T1.map sgOf).length ≤ m := by rw [List.length_map]; have h := okS_len 64 l; rw [HSP1.out.1] at h; rw [HM.out] at h; exact h
          obtain ⟨X1, hX1⟩ : ∃ X, X = T1.map sgOf := ⟨_, rfl⟩
          rw [← hX1] at HX9 hxl
          obtain ⟨nx, hnx⟩ : ∃ nx, nx = X1.length := ⟨_, rfl⟩
          rw [← hnx] at HX9 hxl
          have HNX := Lib.hid hnx
          have HX1 := Lib.hid hX1
          obtain ⟨bx, hbx⟩ : ∃ b, b = w6.heap.size := ⟨_, rfl⟩
          rw [← hbx] at HX9
          have HBXE := Lib.hid hbx
          have HBXW := Lib.hid (show w.heap.size ≤ bx by rw [hbx]; exact HB6.out.size)
          have hs69 : bx ≤ w9.heap.size := by rw [hbx]; exact Nat.le_trans HC7.out.size HCH.out.size
          clear hr9 hnx hX1 hbx HCS
          have hd7 := (HT7.out (by first | trivial | rfl)).1
          obtain ⟨lm, aa, ee, hblk⟩ := hd7
          have HD9 := Lib.hid (show Done w9 sb 6 from ⟨lm, aa, ee, blk_keep hblk HCH.out (fun h => own_ne HIN7.out hblk (by decide) (by rw [h.2]; exact (HRB.out h.1).1))⟩)
          clear hblk
          go_wp2_with fail
          refine (write_done sb (m - n) (c - n) A9 6 w9 HD9.out (by decide)).mono ?_
          rintro e w10 ⟨rfl, q10, hw10⟩
          have HBF := Lib.hid (show Below w.heap.size w w10 by rw [hw10]; exact below_drewN HB9.out q10)
          have HOX := Lib.hid (show w10.ownsRow bx 47 3 v7 nx (sgs X1) by rw [hw10]; exact Ucd.own_below HX9.out (below_drewN (Below.refl _ _) q10))
          have HBX := Lib.hid (show bx ≤ w10.heap.size by rw [hw10]; exact hs69)
          have HEE := Lib.hid (show spE 64 l = 6 by unfold spE; rw [if_pos (by decide), show (64 : Int).toNat = 64 from rfl, HSP1.out.2]; rfl)
          have HSUM := Lib.hid (show X1 ++ [] ++ [] = spS 64 l by rw [List.append_nil, List.append_nil, HX1.out]; exact (show T1.map sgOf = spS 64 l by unfold spS; rw [if_pos (by decide), show (64 : Int).toNat = 64 from rfl, HSP1.out.1]))
          clear hw10 hsl9
          have HRY := Lib.hid (show Rd w10 w10.heap.size none (sgs []) from Rd.empty _ _ _)
          have HRZ := Lib.hid (show Rd w10 w10.heap.size none (sgs []) from Rd.empty _ _ _)
          have HZX := Lib.hid (fun (k : Nat) (hk : (none : Option Addr).map (·.block) = some k) (_ : v7.ownBlock = some k) => show False by cases hk)
          go_wp2_with fail
          refine (HW.out w10 ((HR.out.below HBF.out).more HBF.out.size)).mono ?_
          rintro e wa ⟨Aw, nw, cw, haw, rfl, hnw, hrw, hba⟩
          rw [HEE.out]
          have hnwm : nw ≤ m := by rw [hnw]; exact HSPL.out
          have HAW := Lib.hid haw
          have HNW := Lib.hid hnw
          have HRWW := Lib.hid hrw
          have HBA := Lib.hid (HBF.out.trans (hba.mono HBF.out.size))
          have HOXA := Lib.hid (Ucd.own_below HOX.out hba)
          have HVX := Lib.hid (fun g (hg : v7.ownBlock = some g) => (HOX.out.lt g hg).2)
          have HRYA := Lib.hid ((HRY.out.below hba).more hba.size)
          have HRZA := Lib.hid ((HRZ.out.below hba).more hba.size)
          have hsfa := hba.size
          clear hnw hrw hba haw HW
          go_wp2_with fail
          refine (Seg.write_nil m c A wa).mono ?_
          rintro e wa' ⟨rfl, rfl⟩
          go_wp2_with fail
          refine (Seg.close_nil wa).mono ?_
          rintro e wa' ⟨rfl, rfl⟩
          have hbxa := Nat.le_trans HBX.out hsfa
          go_wp2_with (first
            | (at_builtin; refine wpList_append_rdg _ (by rfl) (.tmp 104) (.tmp 105) _ rfl bx 47 i1 _ 3 32 Tryd.underlying24 hi' hy0 hy1 hy2 rfl (by decide) v7 nx (sgs X1) rfl HOXA.out wa.heap.size none 0 0 (sgs []) rfl (by first | rfl | rw [sgs_len, ← HN2.out]) HRYA.out (sgs_one _) (by unfold maxLen; omega) (by omega) hbxa ?_; intro vb wb hownb hgrb hatb; rw [← sgs_append] at hownb; obtain ⟨nb, hnb⟩ : ∃ nb, nb = nx + 0 := ⟨_, rfl⟩; rw [← hnb] at hownb; obtain ⟨Ab, cb, rfl, _⟩ := own_form hownb; have hnbm : nb ≤ 2 * m := (by omega); have HNB := Lib.hid hnb; have HOB := Lib.hid hownb; have HATB := Lib.hid hatb; have HRZB := Lib.hid (rd_off HRZA.out (Nat.le_refl _) hgrb (fun k hk e => HZX.out k hk e.symm)); have HBB := Lib.hid (HBA.out.grown hgrb HBA.out.size (fun g hg => Nat.le_trans HBXW.out (HOXA.out.lt g hg).1)); have hbxb := Nat.le_trans hbxa hgrb.size; have HRWB := Lib.hid (rd_off HRWW.out (Nat.le_refl _) hgrb (fun k hk e => by have := HAW.out k hk; have := HVX.out k e.symm; omega)); have HAWL := Lib.hid (show ∀ k, Aw.map (·.block) = some k → sgs (spS 64 l) ≠ [] → k < wa.heap.size from fun k hk hne => by obtain ⟨b', o', e', h', _⟩ := HRWW.out hne; subst e'; have hk2 : b' = k := Option.some.inj hk; omega); clear hownb hgrb hatb hnb)
            | (at_builtin; refine wpList_append_rdg _ (by rfl) (.tmp 106) (.tmp 107) _ rfl bx 47 i1 _ 3 32 Tryd.underlying24 hi' hy0 hy1 hy2 rfl (by decide) (.slice Ab nb cb) nb (sgs (X1 ++ [])) rfl HOB.out wb.heap.size none 0 0 (sgs []) rfl (by first | rfl | rw [sgs_len, ← HN3.out]) HRZB.out (sgs_one _) (by unfold maxLen; omega) (by omega) hbxb ?_; intro vd wd hownd hgrd hatd; rw [← sgs_append] at hownd; obtain ⟨nd, hnd⟩ : ∃ nd, nd = nb + 0 := ⟨_, rfl⟩; rw [← hnd] at hownd; obtain ⟨Ad, cd, rfl, _, _, hrd⟩ := own_form hownd; have hndm : nd ≤ 3 * m := (by omega); have HND := Lib.hid hnd; have HRD := Lib.hid hrd; have HBD := Lib.hid (HBB.out.grown hgrd HBB.out.size (fun g hg => Nat.le_trans HBXW.out (HOB.out.lt g hg).1)); have HRWD := Lib.hid (rd_off2 HRWB.out (Nat.le_refl _) hgrd (fun hne k hk e => by
                rcases HATB.out with h | h
                · rw [h] at e; have := HAW.out k hk; have := HVX.out k e.symm; omega
                · rw [h] at e; injection e with e; have := HAWL.out k hk hne; omega)); clear hownd hgrd hatd hrd hnd))
          refine (rsame_any Ad Aw (X1 ++ [] ++ []) (spS 64 l) nd nw cd cw wd HRD.out HRWD.out (by rw [HND.out, HNB.out, List.length_append, List.length_append, ← HNX.out]; rfl) HNW.out.symm (by omega) (by omega)).mono ?_
          rintro e we ⟨rfl, qe, hwe⟩
          have HBE := Lib.hid (show Below w.heap.size w we by rw [hwe]; exact below_drewN HBD.out qe)
          rw [HSUM.out, show sameS (spS 64 l) (spS 64 l) = true from decide_eq_true rfl]
          clear hwe
          go_wp2_with fail
          refine (err_nil we).mono ?_
          rintro e we' ⟨rfl, rfl⟩
          go_wp2_with fail
          refine (Seg.pending_nil we).mono ?_
          rintro e we' ⟨rfl, rfl⟩
          go_wp2_with fail
          go_ret
          exact ⟨rfl, HBE.out⟩
    | false =>
      have HT1L := Lib.hid (show T1.length ≤ m by
        obtain ⟨vo7, hlv7, _⟩ := HF7.out (by first | trivial | rfl)
        obtain ⟨O, aa, k0, k1, k2, g1, _⟩ := hlv7
        have h1 := go_len opP flen 64 (dec true 0 ([] ++ l.take n)) [] []
        rw [g1] at h1
        have h2 := dec_len_le true ([] ++ l.take n) 0
        rw [List.nil_append, List.length_take] at h2
        simp only [List.nil_append, List.length_nil] at h1
        have := HM.out
        omega)
      go_wp2_with fail
      go_loopw [55] (fun vi wr => ∃ k : Nat, k ≤ n ∧ vi = .int .i64 k ∧ Hid (0 < n → ∃ cs : List Value, Blk wr R 5 cs ∧ cs.length = c5) ∧ Hid (Chg w7 wr (fun j => 0 < n ∧ j = R))) (fun vi _ => n - (intOf vi).toNat)
      case atStart => exact ⟨0, Nat.zero_le _, rfl, Lib.hid (fun h => (HRI.out h).2), Lib.hid (Chg.refl _ _)⟩
      case round =>
        obtain ⟨w9, rfl⟩ : ∃ w9 : World, w9 = wr := ⟨_, rfl⟩
        obtain ⟨k, hk, rfl, HCS, HCH⟩ := hrel
        by_cases hlt : k < n
        · have hn0 : 0 < n := by omega
          obtain ⟨hA5, _⟩ := HRI.out hn0
          subst hA5
          obtain ⟨cs, hB, hcl⟩ := HCS.out hn0
          obtain ⟨u, hu⟩ : ∃ u, cs[k]? = some u := ⟨_, List.getElem?_eq_getElem (by omega)⟩
          have hck : w9.cell? ⟨R, k, none⟩ = some u := (hB.cell k).trans hu
          have hfk := hB.frozen k
          have hkm : k < m := by omega
          have HBn : Hid (0 < n → ∃ cs : List Value, Blk (w9.setCell ⟨R, k, none⟩ (.int .u8 120)) R 5 cs ∧ cs.length = c5) :=
            Lib.hid fun _ => ⟨cs.set k (.int .u8 120), hB.set_ k _, by rw [List.length_set, hcl]⟩
          have hC9 := Lib.hid (HCH.out.setCell (p := ⟨R, k, none⟩) (.int .u8 120) ⟨hn0, rfl⟩)
          clear hB hcl HCS hu HCH
          go_wp2
          go_roundw
          case rel => exact ⟨k + 1, by omega, by go_num, HBn, hC9⟩
          case measure => simp [intOf]; omega
        · have HB9 := Lib.hid (HB7.out.trans (HCH.out.below (B := w.heap.size) HB7.out.size (fun i hi h => by have := (HRB.out h.1).2.1; have := h.2; omega)))
          have HX9 := Lib.hid (Norm.own_keep HO7.out HCH.out (fun g hg h => by have := (HO7.out.lt g hg).1; have := (HRB.out h.1).2.2; have := h.2; omega))
          obtain ⟨A9, hsl9, hr9⟩ := slice_from (n := n) (HR.out.below HB9.out) HM.out hnm HC.out
          have HR9 := Lib.hid hr9
          have hxl : (T1.map sgOf).length ≤ m := by rw [List.length_map]; exact HT1L.out
          obtain ⟨X1, hX1⟩ : ∃ X, X = T1.map sgOf := ⟨_, rfl⟩
          rw [← hX1] at HX9 hxl
          obtain ⟨nx, hnx⟩ : ∃ nx, nx = X1.length := ⟨_, rfl⟩
          rw [← hnx] at HX9 hxl
          have HNX := Lib.hid hnx
          have HX1 := Lib.hid hX1
          obtain ⟨bx, hbx⟩ : ∃ b, b = w6.heap.size := ⟨_, rfl⟩
          rw [← hbx] at HX9
          have HBXE := Lib.hid hbx
          have HBXW := Lib.hid (show w.heap.size ≤ bx by rw [hbx]; exact HB6.out.size)
          have hs69 : bx ≤ w9.heap.size := by rw [hbx]; exact Nat.le_trans HC7.out.size HCH.out.size
          clear hr9 hnx hX1 hbx HCS
          obtain ⟨vo7, hlv7, _⟩ := HF7.out (by first | trivial | rfl)
          rw [List.nil_append, List.nil_append] at hlv7
          have hap7 := hlv7.apart HIN7.out (by decide) (by decide) (by decide)
          have HLV9 := Lib.hid (hlv7.keep HCH.out (fun h => hap7 R (HRB.out h.1).1 (.inl h.2.symm)) (fun h => hap7 R (HRB.out h.1).1 (.inr (.inl h.2.symm))) (fun k hk h => hap7 R (HRB.out h.1).1 (.inr (.inr (h.2 ▸ hk)))))
          clear hlv7 hap7
          have HB59 := Lib.hid (show b5 ≤ w9.heap.size from Nat.le_trans HS56.out (Nat.le_trans HC7.out.size HCH.out.size))
          have HLD := Lib.hid (show (l.drop n).length = m - n by rw [List.length_drop, HM.out])
          have HMC := HC.out
          go_wp2_with fail
          refine (live_write b5 sb db 64 (m - n) (c - n) vo7 (l.take n) (l.drop n) T1 A9 w9 (HL.out.next HB9.out) HLV9.out (HR9.out.more HB9.out.size) HLD.out (by omega) (by omega) HB59.out HGB.out (by rw [HLT.out]; omega)).mono ?_
          rintro e w10 ⟨v10, T2, b2, rfl, ho10, hch10, hf10, ht10⟩
          have HX10 := Lib.hid (Norm.own_keep HX9.out hch10 (HLV9.out.apart HX9.out (by decide) (by decide) (by decide)))
          have HB10 := Lib.hid (HB9.out.trans (hch10.below (B := w.heap.size) HB9.out.size (fun i hi => HLV9.out.hers (by have := HWB.out; omega))))
          obtain ⟨X2, hX2⟩ : ∃ X, X = T2.map sgOf := ⟨_, rfl⟩
          rw [← hX2] at ho10
          obtain ⟨ny, hny⟩ : ∃ ny, ny = X2.length := ⟨_, rfl⟩
          rw [← hny] at ho10
          have HN2 := Lib.hid hny
          have HX2 := Lib.hid hX2
          have HO10 := Lib.hid ho10
          have HF10 := Lib.hid hf10
          have HT10 := Lib.hid ht10
          have HC10 := Lib.hid hch10
          have HTD := Lib.hid (show l.take n ++ l.drop n = l from List.take_append_drop n l)
          clear ho10 hch10 hf10 ht10 hny hX2 hsl9
          cases b2 with
          | true =>
            have hsp := (HT10.out (by first | trivial | rfl)).2
            rw [HTD.out] at hsp
            obtain ⟨cc, hcc⟩ := dec_more l
            have hsp2 := hsp cc
            rw [← hcc] at hsp2
            have HSP2 := Lib.hid (show okS 64 l = T1 ++ T2 ∧ badS 64 l = true from hsp2)
            obtain ⟨A10, c10, rfl, _, _, hr10⟩ := own_form HO10.out
            have HRY := Lib.hid hr10
            have HBF := Lib.hid HB10.out
            have HOX := Lib.hid HX10.out
            have HBX := Lib.hid (show bx ≤ w10.heap.size from Nat.le_trans hs69 HC10.out.size)
            have HEE := Lib.hid (show spE 64 l = 6 by unfold spE; rw [if_pos (by decide), show (64 : Int).toNat = 64 from rfl, HSP2.out.2]; rfl)
            have HSUM := Lib.hid (show X1 ++ X2 ++ [] = spS 64 l by rw [List.append_nil, HX1.out, HX2.out, ← List.map_append]; unfold spS; rw [if_pos (by decide), show (64 : Int).toNat = 64 from rfl, HSP2.out.1])
            have HRZ := Lib.hid (show Rd w10 w10.heap.size none (sgs []) from Rd.empty _ _ _)
            have HZX := Lib.hid (fun (k : Nat) (hk : (none : Option Addr).map (·.block) = some k) (_ : v7.ownBlock = some k) => show False by cases hk)
            have hnyx : nx + ny ≤ m := by
              have h := HSPL.out
              rw [← HSUM.out, List.length_append, List.length_append, ← HNX.out, ← HN2.out] at h
              simpa using h
            clear hsp hcc hsp2 hr10
            go_wp2_with fail
            refine (HW.out w10 ((HR.out.below HBF.out).more HBF.out.size)).mono ?_
            rintro e wa ⟨Aw, nw, cw, haw, rfl, hnw, hrw, hba⟩
            rw [HEE.out]
            have hnwm : nw ≤ m := by rw [hnw]; exact HSPL.out
            have HAW := Lib.hid haw
            have HNW := Lib.hid hnw
            have HRWW := Lib.hid hrw
            have HBA := Lib.hid (HBF.out.trans (hba.mono HBF.out.size))
            have HOXA := Lib.hid (Ucd.own_below HOX.out hba)
            have HVX := Lib.hid (fun g (hg : v7.ownBlock = some g) => (HOX.out.lt g hg).2)
            have HRYA := Lib.hid ((HRY.out.below hba).more hba.size)
            have HRZA := Lib.hid ((HRZ.out.below hba).more hba.size)
            have hsfa := hba.size
            clear hnw hrw hba haw HW
            go_wp2_with fail
            refine (Seg.write_nil m c A wa).mono ?_
            rintro e wa' ⟨rfl, rfl⟩
            go_wp2_with fail
            refine (Seg.close_nil wa).mono ?_
            rintro e wa' ⟨rfl, rfl⟩
            have hbxa := Nat.le_trans HBX.out hsfa
            go_wp2_with (first
              | (at_builtin; refine wpList_append_rdg _ (by rfl) (.tmp 104) (.tmp 105) _ rfl bx 47 i1 _ 3 32 Tryd.underlying24 hi' hy0 hy1 hy2 rfl (by decide) v7 nx (sgs X1) rfl HOXA.out wa.heap.size A10 ny c10 (sgs X2) rfl (by first | rfl | rw [sgs_len, ← HN2.out]) HRYA.out (sgs_one _) (by unfold maxLen; omega) (by omega) hbxa ?_; intro vb wb hownb hgrb hatb; rw [← sgs_append] at hownb; obtain ⟨nb, hnb⟩ : ∃ nb, nb = nx + ny := ⟨_, rfl⟩; rw [← hnb] at hownb; obtain ⟨Ab, cb, rfl, _⟩ := own_form hownb; have hnbm : nb ≤ 2 * m := (by omega); have HNB := Lib.hid hnb; have HOB := Lib.hid hownb; have HATB := Lib.hid hatb; have HRZB := Lib.hid (rd_off HRZA.out (Nat.le_refl _) hgrb (fun k hk e => HZX.out k hk e.symm)); have HBB := Lib.hid (HBA.out.grown hgrb HBA.out.size (fun g hg => Nat.le_trans HBXW.out (HOXA.out.lt g hg).1)); have hbxb := Nat.le_trans hbxa hgrb.size; have HRWB := Lib.hid (rd_off HRWW.out (Nat.le_refl _) hgrb (fun k hk e => by have := HAW.out k hk; have := HVX.out k e.symm; omega)); have HAWL := Lib.hid (show ∀ k, Aw.map (·.block) = some k → sgs (spS 64 l) ≠ [] → k < wa.heap.size from fun k hk hne => by obtain ⟨b', o', e', h', _⟩ := HRWW.out hne; subst e'; have hk2 : b' = k := Option.some.inj hk; omega); clear hownb hgrb hatb hnb)
              | (at_builtin; refine wpList_append_rdg _ (by rfl) (.tmp 106) (.tmp 107) _ rfl bx 47 i1 _ 3 32 Tryd.underlying24 hi' hy0 hy1 hy2 rfl (by decide) (.slice Ab nb cb) nb (sgs (X1 ++ X2)) rfl HOB.out wb.heap.size none 0 0 (sgs []) rfl (by first | rfl | rw [sgs_len, ← HN3.out]) HRZB.out (sgs_one _) (by unfold maxLen; omega) (by omega) hbxb ?_; intro vd wd hownd hgrd hatd; rw [← sgs_append] at hownd; obtain ⟨nd, hnd⟩ : ∃ nd, nd = nb + 0 := ⟨_, rfl⟩; rw [← hnd] at hownd; obtain ⟨Ad, cd, rfl, _, _, hrd⟩ := own_form hownd; have hndm : nd ≤ 3 * m := (by omega); have HND := Lib.hid hnd; have HRD := Lib.hid hrd; have HBD := Lib.hid (HBB.out.grown hgrd HBB.out.size (fun g hg => Nat.le_trans HBXW.out (HOB.out.lt g hg).1)); have HRWD := Lib.hid (rd_off2 HRWB.out (Nat.le_refl _) hgrd (fun hne k hk e => by
                  rcases HATB.out with h | h
                  · rw [h] at e; have := HAW.out k hk; have := HVX.out k e.symm; omega
                  · rw [h] at e; injection e with e; have := HAWL.out k hk hne; omega)); clear hownd hgrd hatd hrd hnd))
            refine (rsame_any Ad Aw (X1 ++ X2 ++ []) (spS 64 l) nd nw cd cw wd HRD.out HRWD.out (by rw [HND.out, HNB.out, List.length_append, List.length_append, ← HNX.out]; rw [← HN2.out]; rfl) HNW.out.symm (by omega) (by omega)).mono ?_
            rintro e we ⟨rfl, qe, hwe⟩
            have HBE := Lib.hid (show Below w.heap.size w we by rw [hwe]; exact below_drewN HBD.out qe)
            rw [HSUM.out, show sameS (spS 64 l) (spS 64 l) = true from decide_eq_true rfl]
            clear hwe
            go_wp2_with fail
            refine (err_nil we).mono ?_
            rintro e we' ⟨rfl, rfl⟩
            go_wp2_with fail
            refine (Seg.pending_nil we).mono ?_
            rintro e we' ⟨rfl, rfl⟩
            go_wp2_with fail
            go_ret
            exact ⟨rfl, HBE.out⟩
          | false =>
            obtain ⟨vo10, hlv10, _⟩ := HF10.out (by first | trivial | rfl)
            rw [HTD.out] at hlv10
            have HLV10 := Lib.hid hlv10
            clear hlv10
            obtain ⟨A10, c10, rfl, _, _, hr10⟩ := own_form HO10.out
            have HRY10 := Lib.hid hr10
            have HCL := Lib.hid (live_close b5 sb db 64 vo10 l (T1 ++ T2) w10 (HL.out.next HB10.out) HLV10.out (Nat.le_trans HB59.out HC10.out.size) HGB.out (by have := HM.out; omega))
            clear hr10
            go_wp2_with fail
            refine HCL.out.mono ?_
            rintro e w11 ⟨v11, T3, rfl, ho11, hch11, hok11, _⟩
            have HX11 := Lib.hid (Norm.own_keep HX10.out hch11 (HLV10.out.apart HX10.out (by decide) (by decide) (by decide)))
            have HY11 := Lib.hid (Norm.own_keep HO10.out hch11 (HLV10.out.apart HO10.out (by decide) (by decide) (by decide)))
            have HBF := Lib.hid (HB10.out.trans (hch11.below (B := w.heap.size) HB10.out.size (fun i hi => HLV10.out.hers (by have := HWB.out; omega))))
            have hs1011 := hch11.size
            obtain ⟨X3, hX3⟩ : ∃ X, X = T3.map sgOf := ⟨_, rfl⟩
            rw [← hX3] at ho11
            obtain ⟨nz, hnz⟩ : ∃ nz, nz = X3.length := ⟨_, rfl⟩
            rw [← hnz] at ho11
            have HN3 := Lib.hid hnz
            have hbz := fun k (h : v11.ownBlock = some k) => (ho11.lt k h).1
            obtain ⟨A11, c11, rfl, _, _, hr11⟩ := own_form ho11
            have HRZ := Lib.hid hr11
            have HRY := Lib.hid (show Rd w11 w11.heap.size A10 (sgs X2) by
              obtain ⟨A', c', hv, _, _, h⟩ := own_form HY11.out
              injection hv with h1
              subst h1
              exact h)
            have HOX := Lib.hid HX11.out
            have HBX := Lib.hid (show bx ≤ w11.heap.size from Nat.le_trans hs69 (Nat.le_trans HC10.out.size hs1011))
            have HZX := Lib.hid (fun (k : Nat) (hk : A11.map (·.block) = some k) (hv : v7.ownBlock = some k) => show False by
              have h1 := hbz k (by cases A11 with
                | none => cases hk
                | some a => injection hk with hk; subst hk; rfl)
              have h2 := (HX10.out.lt k hv).2
              omega)
            have HSUM := Lib.hid (show X1 ++ X2 ++ X3 = spS 64 l by rw [HX1.out, HX2.out, hX3, ← List.map_append, ← List.map_append]; unfold spS; rw [if_pos (by decide), show (64 : Int).toNat = 64 from rfl, ← hok11])
            have hnyx : nx + ny + nz ≤ m := by
              have h := HSPL.out
              rw [← HSUM.out, List.length_append, List.length_append, ← HNX.out, ← HN2.out, ← HN3.out] at h
              exact h
            clear ho11 hch11 hok11 hX3 hnz hbz hr11 HCL
            cases hbb : badS 64 l
            all_goals
              have HEE := Lib.hid (show spE 64 l = (if badS 64 l then 6 else 0) by unfold spE; rw [if_pos (by decide)]; rfl)
              rw [hbb] at HEE
              clear hbb
              go_wp2_with fail
              refine (HW.out w11 ((HR.out.below HBF.out).more HBF.out.size)).mono ?_
              rintro e wa ⟨Aw, nw, cw, haw, rfl, hnw, hrw, hba⟩
              rw [HEE.out]
              have hnwm : nw ≤ m := by rw [hnw]; exact HSPL.out
              have HAW := Lib.hid haw
              have HNW := Lib.hid hnw
              have HRWW := Lib.hid hrw
              have HBA := Lib.hid (HBF.out.trans (hba.mono HBF.out.size))
              have HOXA := Lib.hid (Ucd.own_below HOX.out hba)
              have HVX := Lib.hid (fun g (hg : v7.ownBlock = some g) => (HOX.out.lt g hg).2)
              have HRYA := Lib.hid ((HRY.out.below hba).more hba.size)
              have HRZA := Lib.hid ((HRZ.out.below hba).more hba.size)
              have hsfa := hba.size
              clear hnw hrw hba haw HW
              go_wp2_with fail
              refine (Seg.write_nil m c A wa).mono ?_
              rintro e wa' ⟨rfl, rfl⟩
              go_wp2_with fail
              refine (Seg.close_nil wa).mono ?_
              rintro e wa' ⟨rfl, rfl⟩
              have hbxa := Nat.le_trans HBX.out hsfa
              go_wp2_with (first
                | (at_builtin; refine wpList_append_rdg _ (by rfl) (.tmp 104) (.tmp 105) _ rfl bx 47 i1 _ 3 32 Tryd.underlying24 hi' hy0 hy1 hy2 rfl (by decide) v7 nx (sgs X1) rfl HOXA.out wa.heap.size A10 ny c10 (sgs X2) rfl (by first | rfl | rw [sgs_len, ← HN2.out]) HRYA.out (sgs_one _) (by unfold maxLen; omega) (by omega) hbxa ?_; intro vb wb hownb hgrb hatb; rw [← sgs_append] at hownb; obtain ⟨nb, hnb⟩ : ∃ nb, nb = nx + ny := ⟨_, rfl⟩; rw [← hnb] at hownb; obtain ⟨Ab, cb, rfl, _⟩ := own_form hownb; have hnbm : nb ≤ 2 * m := (by omega); have HNB := Lib.hid hnb; have HOB := Lib.hid hownb; have HATB := Lib.hid hatb; have HRZB := Lib.hid (rd_off HRZA.out (Nat.le_refl _) hgrb (fun k hk e => HZX.out k hk e.symm)); have HBB := Lib.hid (HBA.out.grown hgrb HBA.out.size (fun g hg => Nat.le_trans HBXW.out (HOXA.out.lt g hg).1)); have hbxb := Nat.le_trans hbxa hgrb.size; have HRWB := Lib.hid (rd_off HRWW.out (Nat.le_refl _) hgrb (fun k hk e => by have := HAW.out k hk; have := HVX.out k e.symm; omega)); have HAWL := Lib.hid (show ∀ k, Aw.map (·.block) = some k → sgs (spS 64 l) ≠ [] → k < wa.heap.size from fun k hk hne => by obtain ⟨b', o', e', h', _⟩ := HRWW.out hne; subst e'; have hk2 : b' = k := Option.some.inj hk; omega); clear hownb hgrb hatb hnb)
                | (at_builtin; refine wpList_append_rdg _ (by rfl) (.tmp 106) (.tmp 107) _ rfl bx 47 i1 _ 3 32 Tryd.underlying24 hi' hy0 hy1 hy2 rfl (by decide) (.slice Ab nb cb) nb (sgs (X1 ++ X2)) rfl HOB.out wb.heap.size A11 nz c11 (sgs X3) rfl (by first | rfl | rw [sgs_len, ← HN3.out]) HRZB.out (sgs_one _) (by unfold maxLen; omega) (by omega) hbxb ?_; intro vd wd hownd hgrd hatd; rw [← sgs_append] at hownd; obtain ⟨nd, hnd⟩ : ∃ nd, nd = nb + nz := ⟨_, rfl⟩; rw [← hnd] at hownd; obtain ⟨Ad, cd, rfl, _, _, hrd⟩ := own_form hownd; have hndm : nd ≤ 3 * m := (by omega); have HND := Lib.hid hnd; have HRD := Lib.hid hrd; have HBD := Lib.hid (HBB.out.grown hgrd HBB.out.size (fun g hg => Nat.le_trans HBXW.out (HOB.out.lt g hg).1)); have HRWD := Lib.hid (rd_off2 HRWB.out (Nat.le_refl _) hgrd (fun hne k hk e => by
                    rcases HATB.out with h | h
                    · rw [h] at e; have := HAW.out k hk; have := HVX.out k e.symm; omega
                    · rw [h] at e; injection e with e; have := HAWL.out k hk hne; omega)); clear hownd hgrd hatd hrd hnd))
              refine (rsame_any Ad Aw (X1 ++ X2 ++ X3) (spS 64 l) nd nw cd cw wd HRD.out HRWD.out (by rw [HND.out, HNB.out, List.length_append, List.length_append, ← HNX.out]; rw [← HN2.out, ← HN3.out]) HNW.out.symm (by omega) (by omega)).mono ?_
              rintro e we ⟨rfl, qe, hwe⟩
              have HBE := Lib.hid (show Below w.heap.size w we by rw [hwe]; exact below_drewN HBD.out qe)
              rw [HSUM.out, show sameS (spS 64 l) (spS 64 l) = true from decide_eq_true rfl]
              clear hwe
              go_wp2_with fail
              refine (err_nil we).mono ?_
              rintro e we' ⟨rfl, rfl⟩
              go_wp2_with fail
              refine (Seg.pending_nil we).mono ?_
              rintro e we' ⟨rfl, rfl⟩
              go_wp2_with fail
              go_ret
              exact ⟨rfl, HBE.out⟩

set_option maxRecDepth 100000 in
theorem contract (H : Type) (enc : TypeId × Value → H) (W : World) (base : Nat) (args : Array Value) (ds gs : List (DataW H)) (before : List MemPlace)
    (hval : ∀ (j : Nat) t v, Tryd.f7.params[j]? = some t → args[j]? = some v → Value.okWide Tryd.prog W .any base t v)
    (hW : DataW.Whole enc Tryd.prog Tryd.f7.params.toList Rows.segKeepsSpec.vars false W args.toList ds gs before) (hLL : laidMetH Tryd.prog Rows.segKeepsUptoRow.laid W) (hk : Rows.uptoSmall H (ds ++ gs) = true) :
    Calls Tryd.prog 7 args W fun e W' => ∃ v, e = .returned v ∧ Rows.segKeepsSpec.post enc Tryd.prog Tryd.f7 false true false false W args v W' := by
  have hL : Laid W := laid_of hLL
  have hW' := hW
  obtain ⟨p, q, hA0, hV, rfl, hfz, hnd⟩ := hW
  have hA : DataW.TrodAll enc Tryd.prog W 0 (fun _ => true) true Tryd.f7.params.toList args.toList ds p := hA0
  rw [Tryd.params7] at hA hval
  obtain ⟨v0, vs0, d0, ds0, p0, q0, hargs, rfl, rfl, h0, r0⟩ := trodAll_cons hA
  obtain ⟨v1, vs1, d1, ds1, p1, q1, rfl, rfl, rfl, h1, r1⟩ := trodAll_cons r0
  obtain ⟨rfl, rfl, rfl⟩ := trodAll_nil r1
  obtain rfl : args = #[v0, v1] := by cases args; simp_all
  obtain ⟨rfl, rfl⟩ := trodVars_none hV
  obtain ⟨a0, len0, cap0, rfl⟩ := okWide_slice Tryd.underlying22 (hval 0 22 v0 rfl rfl)
  have k0 := h0
  have lt0 : ∀ x ∈ p0, x.block < W.heap.size := by obtain ⟨m, hm⟩ := k0; exact DataW.trod_lt m _ _ _ hm
  obtain ⟨l0, hl0, hc0, hm0, hr0, hb0⟩ := open_bytes h0
  obtain ⟨z1, rfl, rfl, rfl, w1⟩ := open_int Tryd.underlying3 (hval 1 3 v1 rfl rfl) h1
  have hbd := bulk_bound hk
  simp only [List.append_nil, Rows.uptoBulkAll] at hbd
  clear hA0
  refine (walk a0 l0 len0 cap0 z1 W hL hr0 hl0 hc0 hm0 (by omega) (i64_bounds w1)).mono fun e W' ⟨he, bel⟩ => ?_
  subst he
  exact ⟨_, rfl, _, _, _, [], _, [], hW', trodAll_mk1 (shut_bool Tryd.underlying4 _), (trodAll_cons_mk (Below.trod laidOut (by kernel_rfl) (of_decide_eq_true (by kernel_rfl)) k0 bel lt0) (trodAll_cons_mk (shut_int Tryd.underlying3 w1) trodAll_mk0)), rfl, bel.frame _, fun h => by cases h⟩

set_option maxRecDepth 100000 in
theorem laid_met (os : Os) : laidMet Tryd.prog Rows.segKeepsUptoRow.laid ((laidWorld os).forCall (fun _ _ => 0) ⟨#[], #[.slice none 0 0, .int .i64 0], []⟩).memory :=
  laidMet_of_run' 8 (by kernel_rfl) (by kernel_rfl)
set_option maxRecDepth 100000 in
theorem reads (os : Os) {H : Type} (enc : TypeId × Value → H) : ∃ places, DataW.whole enc Tryd.prog ((laidWorld os).forCall (fun _ _ => 0) ⟨#[], #[.slice none 0 0, .int .i64 0], []⟩).memory Tryd.f7.params.toList Rows.segKeepsSpec.vars false (#[.slice none 0 0, .int .i64 0] : Array Value).toList 8 = some ([.nil, .lit (.int .i64 0)], [], places) :=
  ⟨[], by kernel_rfl⟩

set_option maxRecDepth 100000 in
theorem lifted (os : Os) (started : os.Started) (H : Type) (enc : TypeId × Value → H) (F : Stop.Interp) :
    ReturnsInHanded {} Tryd.checked os 7 .any ((Rows.OpenSpec.upto Rows.segKeepsSpec).preRow enc Tryd.prog Tryd.f7 Rows.segKeepsUptoRow.domain false Rows.segKeepsUptoRow.laid) (((Rows.OpenSpec.upto Rows.segKeepsSpec).at F).post enc Tryd.prog Tryd.f7 false true false false) := by
  obtain ⟨places, hx⟩ := reads os enc
  refine returnsInHanded_of_row (C := Tryd.checked) (s := Rows.OpenSpec.upto Rows.segKeepsSpec) own started (by kernel_rfl) Tryd.func7
    (witness_row_at (enc := enc) (C := Tryd.checked) false (laidWorld os) #[.slice none 0 0, .int .i64 0] rfl (by kernel_rfl) (by kernel_rfl) (by kernel_rfl)
      (OpenSpec.preRow_of_cond 8 hx (by kernel_rfl) (fun k hk => by cases hk; kernel_rfl) (by kernel_rfl) (laid_met os))) ?_
  intro W base args ds gs before hval hW _ hcond _ hL _ _
  exact contract H enc W base args ds gs before hval hW hL (hcond _ rfl)

set_option maxRecDepth 100000 in
theorem said : Rows.SegKeepsUptoSaid :=
  OpenClaim.holds_of_cond 7 Tryd.f7 rfl rfl rfl rfl rfl rfl rfl ⟨rfl, rfl, rfl, rfl, rfl⟩ rfl rfl rfl rfl rfl (by kernel_rfl) Tryd.func7 (by kernel_rfl)
    (of_decide_eq_true (by kernel_rfl)) (by unfold Func.isWrapper; first | (rw [if_pos (by decide +kernel)]; kernel_rfl) | (rw [if_neg (by decide +kernel)]; exact ⟨rfl, rfl⟩))
    (fun os started H enc _ F => by rw [OpenClaim.pre_eq_preRow]; exact lifted os started H enc F)

set_option maxRecDepth 100000 in
/-- no parameter wants a stand-in; the program's own looks are off -/
theorem plain (f : FuncId) (fn : Func) (hf : Tryd.pinned.checked.prog.funcNamed Rows.segKeepsUptoRow.func = some f) (hfn : Tryd.pinned.checked.prog.funcs[f]? = some fn) :
    false = Tryd.pinned.checked.prog.looks [] ∧ ∀ (j : Nat) t, fn.params[j]? = some t → Tryd.pinned.checked.prog.wantsStandIn t = false := by
  obtain rfl : f = 7 := Option.some.inj ((show Tryd.prog.funcNamed Rows.segKeepsUptoRow.func = some 7 by kernel_rfl).symm.trans hf) |>.symm
  obtain rfl : fn = Tryd.f7 := (Option.some.inj (Tryd.func7.symm.trans hfn)).symm
  refine ⟨by kernel_rfl, fun j t ht => ?_⟩
  rw [Tryd.params7] at ht
  have hm := Array.mem_of_getElem? ht
  simp only [List.mem_toArray, List.mem_cons, List.not_mem_nil, or_false] at hm
  rcases hm with rfl | rfl
  all_goals first | exact (show Tryd.prog.wantsStandIn 22 = false by kernel_rfl) | exact (show Tryd.prog.wantsStandIn 3 = false by kernel_rfl)

set_option maxRecDepth 100000 in
/-- THE STATEMENT -/
theorem proved : Rows.SegKeepsUptoCardSaid :=
  Claim7.holds_tied_plain_at .later [] _ _ _ _ said (fun _ h => by cases h) (by kernel_rfl) (fun _ h => by cases h) segKeepsUpto_row_tie rfl ⟨rfl, rfl⟩ (by kernel_rfl) rfl plain (by kernel_rfl)
end Go.Proofs.YtkloohgajfodgaaDoor.LawSegKeeps
