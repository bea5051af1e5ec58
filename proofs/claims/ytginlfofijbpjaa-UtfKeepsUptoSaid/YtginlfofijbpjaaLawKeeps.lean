/-
  Whatever bytes there are (the arguments of bulk at most 1048576), cut wherever: what is handed in stays, its spare room too, and may be written over; two decoders do not mix; a nil one tells nothing. Conditions: the given bound on the arguments' bulk.
-/
import Derived.Test.YtginlfofijbpjaaUtfOpen
import Derived.Deep.RegionLaw
import Derived.Laws.OwnMore
import Derived.Deep.DeepCutAuto
namespace Go.Proofs.Ytginlfofijbpjaa.LawUtfKeeps
open Go.ChangeShapes Go.WideShapes Go.ChangeAt Go.RowKit Utf

theorem i64_bounds {n : Int} (h : (Lit.int .i64 n).wf = true) : -9223372036854775808 ≤ n ∧ n ≤ 9223372036854775807 := by simpa [Lit.wf, IntKind.min, IntKind.max, IntKind.signed, IntKind.bits] using h
theorem zero_cells (n : Nat) : (madeCells #[Value.int .u8 0] n) = (List.replicate n (Value.int .u8 0)).toArray := by
  rw [← toList_madeCells_one]
/-- append within the room of a block that is known whole, as a step of a region that draws -/
theorem step_append_blk {P : Program} {ops : Array Oper} {o : Oper} {a : Act} {w : World} {K : Act → World → Prop} {Q : Exit → Act → World → Prop} {E : Prop} (hgd : o.guard = none) (s x : Operand) (t : TypeId)
    (ho : o.op = .call { callee := .builtin .append, args := #[s, x], argTypes := #[t, t] }) (e : TypeId) (i : TypeInfo) (ht : P.underlying t = some (.slice e)) (hi : P.info? e = some i) (hsize : i.size = 1)
    (g k cap : Nat) (hs : a.eval s = .slice (some ⟨g, 0, none⟩) k cap) (cur : List Value) (hg : Blk w g e cur) (hcl : cur.length = cap)
    (A : Option Addr) (m c : Nat) (hx : a.eval x = .slice A m c) (B : Nat) (news : List Value) (hl : news.length = m) (hr : Rd w B A news) (h1 : ∀ u ∈ news, u.oneCell' = true) (hroom : k + m ≤ cap)
    (h : ∀ w', Blk w' g e (cur.take k ++ news ++ cur.drop (k + m)) → w.grownBy w' (some g) → K (a.put o.dst (.slice (some ⟨g, 0, none⟩) (k + m) cap)) w') :
    if Region.wanted o (yielded ops a.tmps) = true then Oper.wp P o a w K Q else E := by
  have hw : Region.wanted o (yielded ops a.tmps) = true := by simp [Region.wanted, hgd]
  rw [if_pos hw]
  by_cases h0 : news = []
  · subst h0
    have hm : m = 0 := by simpa using hl.symm
    subst hm
    have hkc : k ≤ cap := by omega
    have hrun : (Builtin.append_ #[t, t] o.type #[.slice (some ⟨g, 0, none⟩) k cap, .slice A 0 c]).run P w = .ok (.slice (some ⟨g, 0, none⟩) k cap) w := by
      cases A with
      | none => simp [Builtin.append_, run_underlying ht, sizeOf, typeInfo, hi, Builtin.lenOf, Builtin.firstCells, hkc, storeCells]
      | some ad => simp [Builtin.append_, run_underlying ht, sizeOf, typeInfo, hi, Builtin.lenOf, Builtin.firstCells, loadCells, loadCellsFrom, hkc, storeCells]
    have hfin := h w (by simpa using hg) (World.grownBy.refl w _)
    unfold Oper.wp execOp
    simp only [ho, resolve, invoke, builtin, Sem.run_bind, Sem.run_pure, Result.andThen_ok, List.map_toArray, List.map_cons, List.map_nil, hs, hx, hrun]
    exact hfin
  · obtain ⟨b', o', rfl, _, hc⟩ := hr h0
    have hsrc : ∀ j v, news[j]? = some v → w.cell? ((⟨b', o', none⟩ : Addr).add j) = some v := fun j v hv => by
      have hadd : (⟨b', o', none⟩ : Addr).add j = ⟨b', o' + j, none⟩ := by unfold Addr.add; split <;> simp_all
      rw [hadd]; exact hc j v hv
    have hrun := run_append_room (P := P) w t o.type e i ht hi g k cap cur.toArray hg ⟨b', o', none⟩ m c news (by rw [hsize]; omega) hsrc h1 hroom (by simp [hsize, hcl]; omega)
    unfold Oper.wp
    simp [execOp, ho, resolve, invoke, builtin, hs, hx, hrun, Result.andThen]
    refine h _ ?_ ⟨rfl, rfl, rfl, by simp, fun j _ hk => setRow_other w g j _ (fun e => hk (by rw [e]))⟩
    have := setRow_heap w g cur.toArray (cur.take k ++ news ++ cur.drop (k + m)).toArray e _ hg
    unfold Blk
    simpa [hsize, hl] using this

theorem one_app (a b : List Pt) : ∀ u ∈ pts a ++ pts b, u.oneCell' = true := by
  rw [← pts_append]; exact pts_one _
def zeros (n : Nat) : List Value := List.replicate n (.int .u8 0)
theorem zeros_len (n : Nat) : (zeros n).length = n := List.length_replicate
theorem zeros_get {n j : Nat} (h : j < n) : (zeros n)[j]? = some (.int .u8 0) := by unfold zeros; rw [List.getElem?_replicate, if_pos h]
theorem rd_cut {w : World} {B n c : Nat} {A : Option Addr} {l : List UInt8} (h : Rd w B A (bys l)) (hc : l.length ≤ c) : Rd w B (if c = n then A else A.map (fun x => x.add n)) (bys (l.drop n)) := by
  intro hne
  have hlt : n < l.length := by
    rcases Nat.lt_or_ge n l.length with h' | h'
    · exact h'
    · rw [List.drop_eq_nil_of_le h'] at hne; exact absurd rfl hne
  obtain ⟨b, o, rfl, hb⟩ := h.form (by rw [bys_len]; omega)
  have hd := h.drop_ n
  rw [bys_drop] at hd
  obtain ⟨b', o', e, hb', hc'⟩ := hd hne
  rw [if_neg (by omega)]
  refine ⟨b', o', ?_, hb', hc'⟩
  rw [← e]
  simp only [Option.map_some, Option.some.injEq]
  unfold Addr.add; split <;> simp_all
theorem own_keep {w w' : World} {base : Nat} {e : TypeId} {size : Nat} {v : Value} {n : Nat} {xs : List Value} {row : Option Nat} (h : w.ownsRow base e size v n xs) (hg : w.grownBy w' row) (hne : ∀ k, v.ownBlock = some k → row = some k → False) : w'.ownsRow base e size v n xs :=
  h.kept hg (by
    cases hv : v.ownBlock with
    | none => left; rfl
    | some k => right; intro e; exact hne k hv e.symm)
theorem own_far {w w' : World} {base g : Nat} {e : TypeId} {size : Nat} {v : Value} {n : Nat} {xs : List Value} (h : w.ownsRow base e size v n xs) (hg : w.grownBy w' (some g)) (hlt : g < base) : w'.ownsRow base e size v n xs :=
  h.kept hg (.inr (fun e => by have := (h.lt g e).1; omega))

set_option maxRecDepth 100000 in
set_option maxHeartbeats 4000000 in
theorem walk (A : Option Addr) (l : List UInt8) (m c : Nat) (z : Int) (w : World) (hr : Rd w w.heap.size A (bys l)) (hm : l.length = m) (hc : m ≤ c) (hcm : c ≤ 9223372036854775807) (hb : m ≤ 1048576) (hz : -9223372036854775808 ≤ z ∧ z ≤ 9223372036854775807) :
    Calls Try.prog 7 #[.slice A m c, .int .i64 z] w (Law w) := by
  obtain ⟨i0, hi, hz0, hz1, hz2⟩ := info_parts infoU8
  obtain ⟨ip, ip1, ip2, ip3, ip4⟩ := info_parts infoPt
  have HM := Lib.hid hm
  clear hm
  obtain ⟨zl, zh⟩ := hz
  go_enter Try.func7, Try.ntmps7
  go_wp2_with fail
  refine (fixed_any _).mono ?_
  rintro e w1 hf
  obtain ⟨rfl, hb1⟩ := hf.out
  clear hf
  have hnn : m ≠ 0 → ∃ n : Nat, wrap64 ((IntKind.u64.wrap z).tmod ((m : Int) + 1)) = n ∧ n ≤ m := by
    intro _
    have h0 : 0 ≤ IntKind.u64.wrap z := by rw [IntKind.wrap_u64]; exact Int.emod_nonneg _ (by decide)
    generalize IntKind.u64.wrap z = u at h0 ⊢
    have h1 : u.tmod ((m : Int) + 1) = u % ((m : Int) + 1) := Int.tmod_eq_emod_of_nonneg h0
    have h2 : 0 ≤ u % ((m : Int) + 1) := Int.emod_nonneg _ (by omega)
    have h3 : u % ((m : Int) + 1) < (m : Int) + 1 := Int.emod_lt_of_pos _ (by omega)
    refine ⟨(u % ((m : Int) + 1)).toNat, ?_, by omega⟩
    rw [h1, IntWalk.wrap64_in _ ⟨by omega, by omega⟩]
    omega
  have HNN := Lib.hid hnn
  clear hnn zl zh
  go_upto_if 20 with fail
  go_cut [5] (fun s5 wx => ∃ n : Nat, n ≤ m ∧ s5 = .int .i64 n ∧ Hid (wx = w1))
  case first =>
    by_cases hm0 : m = 0
    · subst hm0
      go_wp2_with fail
      go_meet
      exact ⟨0, Nat.le_refl _, rfl, Lib.hid rfl⟩
    · have hmp : (0 : Int) < (m : Int) := by omega
      obtain ⟨n, hn, hnm⟩ := HNN.out hm0
      have HNn := Lib.hid hn
      clear hn hm0
      go_wp2_with fail
      go_meet
      exact ⟨n, hnm, by rw [HNn.out], Lib.hid rfl⟩
  case rest =>
    obtain ⟨n, hnm, rfl, hw⟩ := hcut
    obtain rfl := hw.out
    clear HNN hw
    have e1 : IntKind.i64.wrap ((m : Int) + 8) = (m : Int) + 8 := IntWalk.i64_in _ (by omega)
    have hmk : ∀ u : World, (Instr.makeSlice 22 (.int .i64 0) (.int .i64 ((m : Int) + 8))).run Try.prog u = .ok (.slice (some ⟨u.heap.size, 0, none⟩) 0 (m + 8)) (u.alloc (.cells (zeros (m + 8)).toArray 5)) := fun u => by
      have h := run_make (P := Try.prog) u 22 5 i0 (.int .u8 0) Try.underlying22 hi hz0 .i64 .i64 0 ((m : Int) + 8) (by omega) (by omega) (by rw [hz2]; omega) (by omega)
      have e : ((m : Int) + 8).toNat = m + 8 := by omega
      rw [e, hz1, Nat.mul_one] at h
      rw [h]
      show Result.ok _ (u.alloc (.cells (madeCells #[Value.int .u8 0] (m + 8)) _)) = _
      rw [zero_cells]; rfl
    have hn8 : (n : Int) ≤ (c : Int) := by omega
    have hlt' : (l.take n).length = n := by rw [List.length_take, HM.out]; omega
    have HLT := Lib.hid hlt'
    have HZL := Lib.hid (zeros_len (m + 8))
    have hrn : Rd wc w.heap.size A (bys (l.take n)) := by have h := (hr.below hb1).take_ n; rwa [bys_take] at h
    have hbl : (bys (l.take n)).length = n := by rw [bys_len, hlt']
    have HBL := Lib.hid hbl
    clear hlt' hbl
    go_wp2_with fail
    go_region_law (refine step_append_blk rfl (.tmp 32) (.tmp 35) 22 rfl 5 i0 Try.underlying22 hi hz1 wc.heap.size 0 (m + 8) (by simp [Act.eval]) (zeros (m + 8)) (Blk.new _ _ _) HZL.out A n c (by simp [Act.eval]) w.heap.size (bys (l.take n)) HBL.out (hrn.drew.alloc hb1.size _) (bys_one _) (by omega) ?_; intro w5 hB5 hg5)
    have hbw5 : Below w.heap.size w w5 := Below.grown (((below_drewN hb1 1).alloc hb1.size _)) hg5 (by have := hb1.size; simp; omega) (fun k hk => by cases hk; exact hb1.size)
    obtain ⟨R, hR⟩ : ∃ R, R = wc.heap.size := ⟨_, rfl⟩
    have hRw : w.heap.size ≤ R := by rw [hR]; exact hb1.size
    have hB5' : Blk w5 R 5 (bys (l.take n) ++ (zeros (m + 8)).drop n) := by rw [hR]; have := hB5; simpa using this
    have hcs : (bys (l.take n) ++ (zeros (m + 8)).drop n).length = m + 8 := by rw [List.length_append, HBL.out, List.length_drop, HZL.out]; omega
    have hzs : ∀ j, n ≤ j → j < m + 8 → (bys (l.take n) ++ (zeros (m + 8)).drop n)[j]? = some (.int .u8 0) := by
      intro j h1 h2
      rw [List.getElem?_append_right (by rw [HBL.out]; exact h1), HBL.out, List.getElem?_drop]
      exact zeros_get (by omega)
    have htk : (bys (l.take n) ++ (zeros (m + 8)).drop n).take n = bys (l.take n) := List.take_left' HBL.out
    obtain ⟨cs5, hcs5⟩ : ∃ cs, cs = bys (l.take n) ++ (zeros (m + 8)).drop n := ⟨_, rfl⟩
    rw [← hcs5] at hB5' hcs hzs htk
    have hRl : R < w5.heap.size := Blk.lt hB5'
    have HB5 := Lib.hid hB5'; have HCS := Lib.hid hcs; have HZS := Lib.hid hzs; have HTK := Lib.hid htk
    rw [← hR]
    clear hcs5 hB5 hB5' hcs hzs htk hg5 hmk e1 hb1 hR
    go_wp2_with fail
    refine (new_any _).mono ?_
    rintro e w6 ⟨rfl, hw6⟩
    have hD6 : Dc w6 w5.heap.size 0 0 0 0 0 false := by rw [hw6]; exact Blk.new w5 _ _
    have hb6 : Below w5.heap.size w5 w6 := by rw [hw6]; exact (Below.refl _ _).alloc (Nat.le_refl _) _
    have hs6 : w5.heap.size < w6.heap.size := Blk.lt hD6
    have HD6 := Lib.hid hD6
    clear hw6 hD6
    go_wp2_with fail
    refine (new_any _).mono ?_
    rintro e w7 ⟨rfl, hw7⟩
    have hD7 : Dc w7 w6.heap.size 0 0 0 0 0 false := by rw [hw7]; exact Blk.new w6 _ _
    have hb7 : Below w6.heap.size w6 w7 := by rw [hw7]; exact (Below.refl _ _).alloc (Nat.le_refl _) _
    have hs7 : w6.heap.size < w7.heap.size := Blk.lt hD7
    have hD7c : Dc w7 w5.heap.size 0 0 0 0 0 false := Blk.below HD6.out hb7 hs6
    have hB7 : Blk w7 R 5 cs5 := (HB5.out.below hb6 hRl).below hb7 (by omega)
    have hbw7 : Below w.heap.size w w7 := (hbw5.trans (hb6.mono hbw5.size)).trans (hb7.mono (by have := hbw5.size; omega))
    obtain ⟨G1, hG1⟩ : ∃ G, G = w5.heap.size := ⟨_, rfl⟩
    obtain ⟨G2, hG2⟩ : ∃ G, G = w6.heap.size := ⟨_, rfl⟩
    rw [← hG1] at hD7c hRl hs6 ⊢
    rw [← hG2] at hD7 hs6 hs7 ⊢
    have HD7 := Lib.hid hD7; have HD7c := Lib.hid hD7c; have HB7 := Lib.hid hB7
    clear hG1 hG2 hw7 hD7 hD7c hB7 hb6 hb7 HD6 HB5 hbw5
    go_wp2_with fail
    have hRd7 : Rd w7 w7.heap.size (some ⟨R, 0, none⟩) (bys (l.take n)) := by
      rw [← HTK.out]
      refine Rd.take_ (fun _ => ⟨R, 0, rfl, by omega, fun j x hx => ?_⟩) n
      rw [Nat.zero_add, HB7.out.cell]; exact hx
    refine (write_any G1 0 0 n (m + 8) 0 0 0 _ (l.take n) w7 HD7c.out (by omega) hRd7 HLT.out (by omega) (by omega) (by omega) (by omega)).mono ?_
    rintro e w8 ⟨v8, k0, k1, k2, rfl, hown8, hD8, hk8, hg8⟩
    have hkz : kept 0 0 0 0 ++ l.take n = l.take n := rfl
    rw [hkz] at hown8 hD8 hk8
    have hbw8 : Below w.heap.size w w8 := Below.grown hbw7 hg8 hbw7.size (fun k hk => by cases hk; omega)
    have hB8 : Blk w8 R 5 cs5 := HB7.out.grown hg8 (by simp; omega)
    have hD8d : Dc w8 G2 0 0 0 0 0 false := Blk.grown HD7.out hg8 (by simp; omega)
    have hes := rest_short (l.take n)
    have hel := eat_le (l.take n)
    rw [HLT.out] at hD8 hk8 hes hel
    obtain ⟨q1, hq1⟩ : ∃ q, q = eat (l.take n) := ⟨_, rfl⟩
    obtain ⟨X, hX⟩ : ∃ X, X = dec true 0 (l.take n) := ⟨_, rfl⟩
    rw [← hq1] at hD8 hk8 hes hel
    rw [← hX] at hown8
    have hD8' : Dc w8 G1 k0 k1 k2 (n - q1) q1 false := by have := hD8; rwa [Nat.zero_add] at this
    have HX := Lib.hid hX; have HQ1 := Lib.hid hq1; have HK8 := Lib.hid hk8; have HO8 := Lib.hid hown8; have HD8 := Lib.hid hD8'; have HD8d := Lib.hid hD8d; have HB8 := Lib.hid hB8
    have hs78 := hg8.size
    have hv8 := fun k h => (hown8.lt k h).2
    have HV8 := Lib.hid hv8
    clear hv8 hkz hD8 hX hq1 hk8 hown8 hD8' hD8d hB8 hg8 hRd7 HD7 HD7c HB7 hbw7
    go_wp2_with fail
    go_loopw [44] (fun i wr => ∃ k : Nat, k ≤ n ∧ i = .int .i64 k ∧ Hid (∃ cs : List Value, Blk wr R 5 cs ∧ cs.length = m + 8 ∧ ∀ j, n ≤ j → j < m + 8 → cs[j]? = some (.int .u8 0)) ∧ w8.grownBy wr (some R)) (fun i _ => n - (intOf i).toNat)
    case atStart => exact ⟨0, Nat.zero_le _, rfl, Lib.hid ⟨cs5, HB8.out, HCS.out, HZS.out⟩, World.grownBy.refl _ _⟩
    case round =>
      obtain ⟨w9, rfl⟩ : ∃ w9 : World, w9 = wr := ⟨_, rfl⟩
      obtain ⟨k, hk, rfl, HB, hgr⟩ := hrel
      obtain ⟨cs, hB, hcl, hcz⟩ := HB.out
      by_cases hlt : k < n
      · obtain ⟨u, hu⟩ : ∃ u, cs[k]? = some u := ⟨_, List.getElem?_eq_getElem (by omega)⟩
        have hck : w9.cell? ⟨R, k, none⟩ = some u := (hB.cell k).trans hu
        have hfk := hB.frozen k
        have HBn : Hid (∃ cs : List Value, Blk (w9.setCell ⟨R, k, none⟩ (.int .u8 120)) R 5 cs ∧ cs.length = m + 8 ∧ ∀ j, n ≤ j → j < m + 8 → cs[j]? = some (.int .u8 0)) :=
          Lib.hid ⟨cs.set k (.int .u8 120), hB.set_ k _, by rw [List.length_set, hcl], fun j h1 h2 => by rw [List.getElem?_set_ne (by omega)]; exact hcz j h1 h2⟩
        clear hB hcl hcz HB hu
        go_wp2
        go_roundw
        case rel => exact ⟨k + 1, by omega, by go_num, HBn, grown_set hgr k _⟩
        case measure => simp [intOf]; omega
      · clear hB hcl hcz
        go_wp2_with fail
        go_loopw [58] (fun i wr => ∃ k : Nat, k ≤ m + 8 ∧ i = .int .i64 k ∧ Hid (∃ cs : List Value, Blk wr R 5 cs ∧ cs.length = m + 8 ∧ ∀ j, n ≤ j → k ≤ j → j < m + 8 → cs[j]? = some (.int .u8 0)) ∧ w8.grownBy wr (some R)) (fun i _ => m + 8 - (intOf i).toNat)
        case atStart =>
          obtain ⟨cs, hB, hcl, hcz⟩ := HB.out
          exact ⟨0, Nat.zero_le _, rfl, Lib.hid ⟨cs, hB, hcl, fun j h1 _ h2 => hcz j h1 h2⟩, hgr⟩
        case round =>
          clear hgr HB hlt hk
          obtain ⟨k, hk, rfl, HB, hgr⟩ := hrel
          obtain ⟨cs, hB, hcl, hcz⟩ := HB.out
          by_cases hlt : k < m + 8
          · obtain ⟨u, hu⟩ : ∃ u, cs[k]? = some u := ⟨_, List.getElem?_eq_getElem (by omega)⟩
            have hck : wr.cell? ⟨R, k, none⟩ = some u := (hB.cell k).trans hu
            have hc0 : n ≤ k → u = .int .u8 0 := fun h => Option.some.inj (hu.symm.trans (hcz k h (Nat.le_refl _) hlt))
            have hfk := hB.frozen k
            have HBn : Hid (∃ cs : List Value, Blk (wr.setCell ⟨R, k, none⟩ (.int .u8 121)) R 5 cs ∧ cs.length = m + 8 ∧ ∀ j, n ≤ j → k + 1 ≤ j → j < m + 8 → cs[j]? = some (.int .u8 0)) :=
              Lib.hid ⟨cs.set k (.int .u8 121), hB.set_ k _, by rw [List.length_set, hcl], fun j h1 h3 h2 => by rw [List.getElem?_set_ne (by omega)]; exact hcz j h1 (by omega) h2⟩
            clear hB hcl hcz HB hu
            by_cases hkn : n ≤ k
            · obtain rfl := hc0 hkn
              clear hc0
              go_wp2
              go_roundw
              case rel => exact ⟨k + 1, by omega, by go_num, HBn, grown_set hgr k _⟩
              case measure => simp [intOf]; omega
            · have hd : decide ((n : Int) ≤ (k : Int)) = false := by simp; omega
              have hd2 : ¬ (n : Int) ≤ (k : Int) := by omega
              clear hc0
              go_wp2
              go_roundw
              case rel => exact ⟨k + 1, by omega, by go_num, HBn, grown_set hgr k _⟩
              case measure => simp [intOf]; omega
          · obtain ⟨wa, rfl⟩ : ∃ wa : World, wa = wr := ⟨_, rfl⟩
            have hbwa : Below w.heap.size w wa := Below.grown hbw8 hgr hbw8.size (fun k hk => by cases hk; exact hRw)
            have hDa : Dc wa G1 k0 k1 k2 (n - q1) q1 false := Blk.grown HD8.out hgr (by simp; omega)
            have hDad : Dc wa G2 0 0 0 0 0 false := Blk.grown HD8d.out hgr (by simp; omega)
            have hOa := own_far HO8.out hgr (by omega)
            have hsa := hgr.size
            have HDA := Lib.hid hDa; have HDAD := Lib.hid hDad; have HOA := Lib.hid hOa
            clear hB hcl hcz HB hgr hDa hDad hOa HD8 HD8d HO8 hbw8 HB8
            have hrda : Rd wa w.heap.size A (bys l) := hr.below hbwa
            have hra := (rd_cut (n := n) (c := c) hrda (by rw [HM.out]; exact hc)).more hbwa.size
            have hdl : (l.drop n).length = m - n := by rw [List.length_drop, HM.out]
            have HDL := Lib.hid hdl
            have hdcl := dec_close q1 ((l.take n).drop q1 ++ l.drop n)
            have hdap := dec_append false (l.take n) (l.drop n) 0
            rw [List.take_append_drop, ← HX.out, ← HQ1.out, Nat.zero_add] at hdap
            have hdc2 := dec_close 0 l
            have hL2 : ((l.take n).drop q1 ++ l.drop n).length = n - q1 + (m - n) := by rw [List.length_append, List.length_drop, HLT.out, hdl]
            have hll := dec_len_le true ((l.take n).drop q1 ++ l.drop n) q1
            have hlm := dec_len_le true l 0
            have hlx : X.length ≤ n := by rw [HX.out]; have := dec_len_le true (l.take n) 0; rwa [HLT.out] at this
            have hel2 := eat_le ((l.take n).drop q1 ++ l.drop n)
            rw [HM.out] at hlm
            rw [hL2] at hll hel2 hdcl
            rw [HM.out] at hdc2
            obtain ⟨L2, hL2e⟩ : ∃ L2, L2 = (l.take n).drop q1 ++ l.drop n := ⟨_, rfl⟩
            rw [← hL2e] at hdcl hdap hL2 hll hel2
            obtain ⟨Y, hY⟩ : ∃ Y, Y = dec true q1 L2 := ⟨_, rfl⟩
            obtain ⟨X2, hX2⟩ : ∃ X2, X2 = dec true 0 l := ⟨_, rfl⟩
            rw [← hY] at hdcl hll
            rw [← hX2] at hdc2 hlm
            have HL2E := Lib.hid hL2e; have HY := Lib.hid hY; have HX2 := Lib.hid hX2; have HDCL := Lib.hid hdcl; have HDAP := Lib.hid hdap; have HDC2 := Lib.hid hdc2; have HL2 := Lib.hid hL2
            clear hdl hL2e hY hX2 hdcl hdap hdc2 hL2
            rcases Decidable.em (c = n) with hcn | hcn
            all_goals
              first | rw [if_pos hcn] at hra | rw [if_neg hcn] at hra
              have HRA := Lib.hid hra
              clear hra
              go_wp2_with fail
              refine (write_any G1 (n - q1) q1 (m - n) _ k0 k1 k2 _ (l.drop n) wa HDA.out (by omega) HRA.out HDL.out (by omega) (by omega) (by omega) (by omega)).mono ?_
              rintro e wb ⟨vb, j0, j1, j2, rfl, hownb, hDb, _, hgb⟩
              rw [HK8.out, ← HL2E.out] at hownb hDb
              rw [← HY.out] at hownb
              rw [HL2.out] at hDb
              have hbwb : Below w.heap.size w wb := Below.grown hbwa hgb hbwa.size (fun k hk => by cases hk; omega)
              have hDbd : Dc wb G2 0 0 0 0 0 false := Blk.grown HDAD.out hgb (by simp; omega)
              have hOb := own_far HOA.out hgb (by omega)
              have hsb := hgb.size
              obtain ⟨n2, hn2⟩ : ∃ n2, n2 = n - q1 + (m - n) - eat L2 := ⟨_, rfl⟩
              obtain ⟨q2, hq2⟩ : ∃ q2, q2 = q1 + eat L2 := ⟨_, rfl⟩
              rw [← hn2, ← hq2] at hDb
              have HDB := Lib.hid hDb; have HDBD := Lib.hid hDbd; have HOB := Lib.hid hOb; have HN2 := Lib.hid hn2; have HQ2 := Lib.hid hq2
              have hYl : Y.length ≤ m := by omega
              clear hDb hDbd hOb hn2 hq2 hgb HDA HDAD HOA HRA
              go_wp2_with fail
              refine (close_any G1 n2 q2 j0 j1 j2 false wb HDB.out).mono ?_
              rintro e wd ⟨Ad, rfl, hrd, _, hgd⟩
              obtain ⟨Z1, hZ1⟩ : ∃ Z, Z = last n2 q2 := ⟨_, rfl⟩
              have hZl : Z1.length ≤ 1 := by rw [hZ1]; exact last_len _ _
              rw [← hZ1] at hrd ⊢
              have HZ1 := Lib.hid hZ1
              have hbwd : Below w.heap.size w wd := Below.grown hbwb hgd hbwb.size (fun k hk => by cases hk; omega)
              have hDdd : Dc wd G2 0 0 0 0 0 false := Blk.grown HDBD.out hgd (by simp; omega)
              have hOd := own_far HOB.out hgd (by omega)
              have hOy := own_far hownb hgd (by omega)
              have hsd := hgd.size
              have HDDD := Lib.hid hDdd; have HOD := Lib.hid hOd
              clear hZ1 hDdd hOd hgd hownb HDB HDBD HOB
              have hLZ : (pts Z1).length = Z1.length * 3 := pts_len Z1
              have HLZ := Lib.hid hLZ
              clear hLZ
              have hvb := fun k h => hOy.lt k h
              have HVB := Lib.hid hvb
              clear hvb
              go_wp2_with (first
                | (at_builtin; refine wpList_append_rd _ rfl (.tmp 79) (.tmp 81) _ rfl wa.heap.size 37 ip _ 3 24 Try.underlying25 ip1 ip2 ip3 ip4 rfl (by decide) _ Y.length (pts Y) rfl hOy wd.heap.size Ad Z1.length Z1.length (pts Z1) rfl HLZ.out hrd (pts_one Z1) (by unfold maxLen; omega) (by omega) (by omega) ?_; intro vy we howny hgry haty))
              have hbwe : Below w.heap.size w we := Below.grown hbwd hgry hbwd.size (fun k hk => by have := (HVB.out k hk).1; have := hbwa.size; omega)
              have hDed : Dc we G2 0 0 0 0 0 false := Blk.grown HDDD.out hgry (fun h => by have := (HVB.out G2 h.symm).1; omega)
              have hOe := own_keep HOD.out hgry (fun k h1 h2 => by have := HV8.out k h1; have := (HVB.out k h2).1; omega)
              have hse := hgry.size
              obtain ⟨Ay, cy, rfl, _, _, _⟩ := own_form howny
              have hvy := fun k h => (howny.lt k h).2
              have HVY := Lib.hid hvy; have HDED := Lib.hid hDed; have HOE := Lib.hid hOe; have HOY := Lib.hid howny
              have hre := (hr.below hbwe).more hbwe.size
              have HRE := Lib.hid hre
              clear hvy hDed hOe howny hre hgry haty HDDD HOD hOy hrd HVB
              refine (write_any G2 0 0 m _ 0 0 0 A l we HDED.out (by omega) HRE.out HM.out (by omega) (by omega) (by omega) (by omega)).mono ?_
              rintro e wf ⟨vf, i0', i1', i2', rfl, hownf, hDf, _, hgf⟩
              have hkz : kept 0 0 0 0 ++ l = l := rfl
              rw [hkz] at hownf hDf
              rw [← HX2.out] at hownf
              rw [HM.out] at hDf
              have hbwf : Below w.heap.size w wf := Below.grown hbwe hgf hbwe.size (fun k hk => by cases hk; omega)
              have hOf := own_far HOE.out hgf (by omega)
              have hOyf := own_far HOY.out hgf (by omega)
              have hsf := hgf.size
              obtain ⟨n3, hn3⟩ : ∃ n3, n3 = m - eat l := ⟨_, rfl⟩
              obtain ⟨q3, hq3⟩ : ∃ q3, q3 = 0 + eat l := ⟨_, rfl⟩
              rw [← hn3, ← hq3] at hDf
              have HDF := Lib.hid hDf; have HOF := Lib.hid hOf; have HOYF := Lib.hid hOyf; have HN3 := Lib.hid hn3; have HQ3 := Lib.hid hq3
              clear hDf hOf hOyf hn3 hq3 hgf hkz HDED HOE HOY HRE
              go_wp2_with fail
              refine (close_any G2 n3 q3 i0' i1' i2' false wf HDF.out).mono ?_
              rintro e wg ⟨Ag, rfl, hrg, _, hgg⟩
              obtain ⟨Z2, hZ2⟩ : ∃ Z, Z = last n3 q3 := ⟨_, rfl⟩
              have hZl2 : Z2.length ≤ 1 := by rw [hZ2]; exact last_len _ _
              rw [← hZ2] at hrg ⊢
              have HZ2 := Lib.hid hZ2
              have hbwg : Below w.heap.size w wg := Below.grown hbwf hgg hbwf.size (fun k hk => by cases hk; omega)
              have hOg := own_far HOF.out hgg (by omega)
              have hOyg := own_far HOYF.out hgg (by omega)
              have hOz := own_far hownf hgg (by omega)
              have hsg := hgg.size
              have HOG := Lib.hid hOg; have HOYG := Lib.hid hOyg
              have hLZ2 : (pts Z2).length = Z2.length * 3 := pts_len Z2
              have HLZ2 := Lib.hid hLZ2
              have hvf := fun k h => hOz.lt k h
              have HVF := Lib.hid hvf
              clear hvf hLZ2 hZ2 hOg hOyg hgg hownf HDF HOF HOYF
              go_wp2_with (first
                | (at_builtin; refine wpList_append_rd _ rfl (.tmp 85) (.tmp 87) _ rfl we.heap.size 37 ip _ 3 24 Try.underlying25 ip1 ip2 ip3 ip4 rfl (by decide) _ X2.length (pts X2) rfl hOz wg.heap.size Ag Z2.length Z2.length (pts Z2) rfl HLZ2.out hrg (pts_one Z2) (by unfold maxLen; omega) (by omega) (by omega) ?_; intro vz wh hownz hgrz hatz; have hbwh : Below w.heap.size w wh := Below.grown hbwg hgrz hbwg.size (fun k hk => by have := (HVF.out k hk).1; have := hbwe.size; omega); have hOh := own_keep HOG.out hgrz (fun k h1 h2 => by have := HV8.out k h1; have := (HVF.out k h2).1; omega); have hOyh := own_keep HOYG.out hgrz (fun k h1 h2 => by have := HVY.out k h1; have := (HVF.out k h2).1; omega); have hsh := hgrz.size; obtain ⟨Az, cz, rfl, _, _, hrz⟩ := own_form hownz; have hry := Rd.of_own hOyh; have hLy : (pts Y ++ pts Z1).length = (Y.length + Z1.length) * 3 := by rw [List.length_append, pts_len, pts_len]; omega)
                | (at_builtin; refine wpList_append_rd _ rfl (.tmp 89) (.tmp 90) _ rfl w7.heap.size 37 ip _ 3 24 Try.underlying25 ip1 ip2 ip3 ip4 rfl (by decide) _ X.length (pts X) rfl hOh wh.heap.size Ay (Y.length + Z1.length) cy (pts Y ++ pts Z1) rfl hLy hry (one_app Y Z1) (by unfold maxLen; omega) (by omega) (by omega) ?_; intro vq wq hownq hgrq hatq))
              have hbwq : Below w.heap.size w wq := Below.grown hbwh hgrq hbwh.size (fun k hk => by have := (hOh.lt k hk).1; omega)
              have hOz2 := own_keep hownz hgrq (fun k h1 h2 => by have := HV8.out k h2; have := (hownz.lt k h1).1; omega)
              obtain ⟨Aq, cq, rfl, _, _, hrq⟩ := own_form hownq
              have hrz2 := Rd.of_own hOz2
              have e1 : dec false q1 L2 = Y ++ Z1 := by rw [HDCL.out, HZ1.out, HN2.out, HQ2.out]; rfl
              have e2 : dec false 0 l = X2 ++ Z2 := by rw [HDC2.out, HZ2.out, HN3.out, HQ3.out]; rfl
              have hE : X2 ++ Z2 = X ++ (Y ++ Z1) := by rw [← e1, ← e2, HDAP.out]
              rw [← pts_append, hE] at hrz2
              rw [← pts_append, ← pts_append] at hrq
              have hsm := same_any Aq Az (X ++ (Y ++ Z1)) (X ++ (Y ++ Z1)) (X.length + (Y.length + Z1.length)) (X2.length + Z2.length) cq cz wq hrq hrz2 (by rw [List.length_append, List.length_append]) (by rw [← hE, List.length_append]) (by omega) (by omega)
              have hss : same (X ++ (Y ++ Z1)) (X ++ (Y ++ Z1)) = true := by simp [same]
              rw [hss] at hsm
              have HSM := Lib.hid hsm
              clear hsm hss hE e1 e2 hrz2 hrq hOz2 hownq hownz hgrq hgrz hatq hatz hOh hOyh hry
              refine HSM.out.mono ?_
              rintro e ws ⟨rfl, kk, hws⟩
              have hbws : Below w.heap.size w ws := by rw [hws]; exact below_drewN hbwq _
              clear hws HSM
              go_wp2_with fail
              refine (write_nil _ _ _ _).mono ?_
              rintro e wt ⟨rfl, rfl⟩
              go_wp2_with fail
              refine (close_nil _).mono ?_
              rintro e wt ⟨rfl, rfl⟩
              go_wp2_with fail
              refine (pending_nil _).mono ?_
              rintro e wt ⟨rfl, rfl⟩
              go_wp2_with fail
              go_ret
              exact ⟨rfl, hbws⟩

theorem contract (H : Type) (enc : TypeId × Value → H) (W : World) (base : Nat) (args : Array Value) (ds gs : List (DataW H)) (before : List MemPlace)
    (hval : ∀ (j : Nat) t v, Try.f7.params[j]? = some t → args[j]? = some v → Value.okWide Try.prog W .any base t v)
    (hW : DataW.Whole enc Try.prog Try.f7.params.toList Rows.utfKeepsSpec.vars false W args.toList ds gs before) (hk : Rows.uptoSmall H (ds ++ gs) = true) :
    Calls Try.prog 7 args W fun e W' => ∃ v, e = .returned v ∧ Rows.utfKeepsSpec.post enc Try.prog Try.f7 false true false false W args v W' := by
  have hW' := hW
  obtain ⟨p, q, hA0, hV, rfl, hfz, hnd⟩ := hW
  have hA : DataW.TrodAll enc Try.prog W 0 (fun _ => true) true Try.f7.params.toList args.toList ds p := hA0
  rw [Try.params7] at hA hval
  obtain ⟨v0, vs0, d0, ds0, p0, q0, hargs, rfl, rfl, h0, r0⟩ := trodAll_cons hA
  obtain ⟨v1, vs1, d1, ds1, p1, q1, rfl, rfl, rfl, h1, r1⟩ := trodAll_cons r0
  obtain ⟨rfl, rfl, rfl⟩ := trodAll_nil r1
  obtain rfl : args = #[v0, v1] := by cases args; simp_all
  obtain ⟨rfl, rfl⟩ := trodVars_none hV
  obtain ⟨a0, len0, cap0, rfl⟩ := okWide_slice Try.underlying22 (hval 0 22 v0 rfl rfl)
  have k0 := h0
  have lt0 : ∀ x ∈ p0, x.block < W.heap.size := by obtain ⟨m, hm⟩ := k0; exact DataW.trod_lt m _ _ _ hm
  obtain ⟨l0, hl0, hc0, hm0, hr0, hb0⟩ := open_bytes h0
  obtain ⟨z1, rfl, rfl, rfl, w1⟩ := open_int Try.underlying3 (hval 1 3 v1 rfl rfl) h1
  have hbd := bulk_bound hk
  simp only [List.append_nil, Rows.uptoBulkAll] at hbd
  clear hA0
  refine (walk a0 l0 len0 cap0 z1 W hr0 hl0 hc0 hm0 (by omega) (i64_bounds w1)).mono fun e W' ⟨he, bel⟩ => ?_
  subst he
  exact ⟨_, rfl, _, _, _, [], _, [], hW', trodAll_mk1 (shut_bool Try.underlying4 _), (trodAll_cons_mk (Below.trod laidOut (by kernel_rfl) (of_decide_eq_true (by kernel_rfl)) k0 bel lt0) (trodAll_cons_mk (shut_int Try.underlying3 w1) trodAll_mk0)), rfl, bel.frame _, fun h => by cases h⟩

set_option maxRecDepth 100000 in
theorem lifted (os : Os) (started : os.Started) (H : Type) (enc : TypeId × Value → H) (F : Stop.Interp) :
    ReturnsInHanded {} Try.checked os 7 .any ((Rows.OpenSpec.upto Rows.utfKeepsSpec).pre6 enc Try.prog Try.f7 Rows.utfKeepsUptoRow.domain false) (((Rows.OpenSpec.upto Rows.utfKeepsSpec).at F).post enc Try.prog Try.f7 false true false false) := by
  refine returnsInHanded_of_cond (C := Try.checked) (s := Rows.OpenSpec.upto Rows.utfKeepsSpec) (k := Rows.uptoSmall) rfl own started (by kernel_rfl) Try.func7
    (OpenSpec.witness (enc := enc) (C := Try.checked) (s := Rows.OpenSpec.upto Rows.utfKeepsSpec) (k := Rows.uptoSmall) rfl false ⟨#[], #[.slice none 0 0, .int .i64 0], []⟩ 8 (by kernel_rfl) (by kernel_rfl) (by kernel_rfl)
      (x := ([.nil, .lit (.int .i64 0)], [], [])) (by kernel_rfl) rfl (by kernel_rfl)) ?_
  intro W base args ds gs before hval hW _ hk _
  exact contract H enc W base args ds gs before hval hW hk

/-- THE STATEMENT -/
theorem proved : Rows.UtfKeepsUptoSaid :=
  OpenClaim.holds_of_cond 7 Try.f7 rfl rfl rfl rfl rfl rfl rfl ⟨rfl, rfl, rfl, rfl, rfl⟩ rfl rfl rfl rfl rfl (by kernel_rfl) Try.func7 (by kernel_rfl)
    (of_decide_eq_true (by kernel_rfl)) (by unfold Func.isWrapper; first | (rw [if_pos (by decide +kernel)]; kernel_rfl) | (rw [if_neg (by decide +kernel)]; exact ⟨rfl, rfl⟩))
    (fun os started H enc _ F => lifted os started H enc F)
end Go.Proofs.Ytginlfofijbpjaa.LawUtfKeeps
