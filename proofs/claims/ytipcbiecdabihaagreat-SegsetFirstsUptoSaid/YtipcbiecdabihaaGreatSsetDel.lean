/-
  CONTRACT OF slices.DeleteFunc at texts, as Norm uses it: those that may be odd stay.
-/
import Derived.Lib.SliceRun
import Derived.Test.YtipcbiecdabihaaGreatSsetRise
namespace Go.Proofs.YtipcbiecdabihaaGreat.Sset
open Go.RowKit
open Utf (Rd Blk wpList_append_rd own_ne)
open Rset
set_option maxRecDepth 100000

/-- where the first one stands that goes, or -1 -/
def At (L : List Tx) (i : Int) : Prop := (i = -1 ∧ ∀ x ∈ L, okT x = true) ∨ ∃ k : Nat, i = k ∧ k < L.length ∧ (∀ x ∈ L.take k, okT x = true) ∧ ∀ h : k < L.length, okT L[k] = false
set_option maxHeartbeats 2000000 in
theorem iT_any (A : Option Addr) (L : List Tx) (n c : Nat) (w : World) (ha : Rd w w.heap.size A (txs L)) (hn : L.length = n) (hS : Short L) (hn1 : n ≤ 4294967296) :
    Calls Tryz.prog 73 #[.slice A n c, .func (.func 53) #[] #[]] w (fun e w' => ∃ i : Int, e = .returned (.int .i64 i) ∧ At L i ∧ Below w.heap.size w w') := by
  have eg : ∀ args w, (callFunc 53 args).run Tryz.prog w = .ok (.enter 53 args) w := enters_of Tryz.func53 (by kernel_rfl) rfl
  have HA := Lib.hid ha; have HN := Lib.hid hn; have HS := Lib.hid hS
  clear ha hn hS
  go_enter Tryz.func73, Tryz.ntmps73
  go_wp2_with fail
  go_loopw [8] (fun i wr => ∃ k : Nat, k ≤ n ∧ i = .int .i64 k ∧ Hid (∀ x ∈ L.take k, okT x = true) ∧ Hid (Below w.heap.size w wr)) (fun i _ => n - (intOf i).toNat)
  case atStart => exact ⟨0, Nat.zero_le _, rfl, Lib.hid (fun x h => by simp at h), Lib.hid (Below.refl _ _)⟩
  case round =>
    obtain ⟨k, hk, rfl, HT, HW⟩ := hrel
    by_cases hlt : k < n
    · have hkl : k < L.length := by rw [HN.out]; exact hlt
      have hR2 := HA.out.below HW.out
      obtain ⟨b, o, rfl, hb⟩ := rd_form_tx hR2 (by omega)
      have c1 := rd_tx hR2 hkl
      have HTK := Lib.hid (show okT L[k] = true → ∀ x ∈ L.take (k + 1), okT x = true from fun h x hx => by
        rw [List.take_succ_eq_append_getElem hkl] at hx
        rcases List.mem_append.1 hx with hx | hx
        · exact HT.out x hx
        · rw [List.mem_singleton.1 hx]; exact h)
      have HAT := Lib.hid (show okT L[k] = false → At L (k : Int) from fun h => .inr ⟨k, rfl, hkl, HT.out, fun _ => h⟩)
      obtain ⟨X, hX⟩ : ∃ X : ByteArray, X = ⟨L[k].toArray⟩ := ⟨_, rfl⟩
      have hXl : X.toList = L[k] := by rw [hX, mk_toList]
      have c2 : wr.cell? ⟨b, o + k, none⟩ = some (.string X) := by rw [c1, hX]
      have HF := Lib.hid (norm1_any X L[k] hXl (by have := HS.out _ (List.getElem_mem hkl); omega) wr)
      clear c1 hR2 hX hXl
      generalize L[k] = x at *
      clear hkl
      cases hb : okT x with
      | false =>
        rw [hb] at HF
        have HE := Lib.hid (HAT.out hb)
        clear hb
        go_wp2_with (go_at_fn 53; refine HF.out.mono ?_; rintro e w1 ⟨rfl, hb1⟩; have HB1 := Lib.hid (HW.out.trans (hb1.mono HW.out.size)); clear hb1)
        go_ret
        exact ⟨k, rfl, HE.out, HB1.out⟩
      | true =>
        rw [hb] at HF
        have HE := Lib.hid (HTK.out hb)
        clear hb
        go_wp2_with (go_at_fn 53; refine HF.out.mono ?_; rintro e w1 ⟨rfl, hb1⟩; have HB1 := Lib.hid (HW.out.trans (hb1.mono HW.out.size)); clear hb1)
        go_roundw
        case rel => exact ⟨k + 1, by omega, by go_num, HE, HB1⟩
        case measure => simp [intOf]; omega
    · have HE := Lib.hid (show At L (-1) from .inl ⟨rfl, fun x hx => by
        have := HT.out
        rw [List.take_of_length_le (by have := HN.out; omega)] at this
        exact this x hx⟩)
      go_wp2_with fail
      go_ret
      exact ⟨-1, rfl, HE.out, HW.out⟩

theorem own_cells (B g n cap : Nat) : ∀ (m o : Nat) (w : World) (L : List Tx), w.ownsRow B 9 1 (.slice (some ⟨g, 0, none⟩) n cap) n (txs L) →
    ∃ L' : List Tx, L'.take o = L.take o ∧ L'.length = L.length ∧ (w.setCells g o (List.replicate m (encStr []))).ownsRow B 9 1 (.slice (some ⟨g, 0, none⟩) n cap) n (txs L') ∧ w.grownBy (w.setCells g o (List.replicate m (encStr []))) (some g) := by
  intro m
  induction m with
  | zero => intro o w L h; exact ⟨L, rfl, rfl, h, World.grownBy.refl w _⟩
  | succ m ih =>
    intro o w L h
    obtain ⟨o1, g1⟩ := h.stored o (encStr [])
    rw [txs_set] at o1
    obtain ⟨L', t1, t2, t3, t4⟩ := ih (o + 1) _ _ o1
    refine ⟨L', ?_, by rw [t2, List.length_set], t3, g1.trans t4⟩
    have e1 : L'.take o = (L'.take (o + 1)).take o := by rw [List.take_take]; congr 1; omega
    rw [e1, t1, List.take_take, Nat.min_eq_left (by omega), List.take_set_of_le (Nat.le_refl o)]

/-- what stands in the second loop: the head is what stays of those that were looked at; the tail is as it was -/
structure DI (w wr : World) (B g n cap : Nat) (L L' : List Tx) (i j : Nat) : Prop where
  own : wr.ownsRow B 9 1 (.slice (some ⟨g, 0, none⟩) n cap) n (txs L')
  len : L'.length = n
  head : L'.take i = (L.take j).filter okT
  tail : L'.drop j = L.drop j
  lt : i < j
  bel : Below B w wr
  big : B ≤ wr.heap.size
theorem DI.next {w wr w' : World} {B g n cap : Nat} {L L' : List Tx} {i j : Nat} (h : DI w wr B g n cap L L' i j) (hb : Below wr.heap.size wr w') : DI w w' B g n cap L L' i j :=
  ⟨own_below h.own hb, h.len, h.head, h.tail, h.lt, h.bel.trans (hb.mono h.big), Nat.le_trans h.big hb.size⟩
theorem DI.get {w wr : World} {B g n cap : Nat} {L L' : List Tx} {i j : Nat} (h : DI w wr B g n cap L L' i j) (hL : L.length = n) (hj : j < n) : L'[j]'(by rw [h.len]; exact hj) = L[j] := by
  have h1 : j < L'.length := by rw [h.len]; exact hj
  have h2 : j < L.length := by omega
  have := h.tail
  rw [List.drop_eq_getElem_cons h1, List.drop_eq_getElem_cons h2] at this
  exact (List.cons.inj this).1
theorem DI.skip {w wr : World} {B g n cap : Nat} {L L' : List Tx} {i j : Nat} (h : DI w wr B g n cap L L' i j) (hL : L.length = n) (hj : j < n) (ho : okT L[j] = false) : DI w wr B g n cap L L' i (j + 1) :=
  ⟨h.own, h.len, by rw [List.take_succ_eq_append_getElem (by omega), List.filter_append, List.filter_cons, if_neg (by rw [ho]; exact Bool.false_ne_true), List.filter_nil, List.append_nil]; exact h.head,
   by rw [← List.drop_drop, ← List.drop_drop, h.tail], by have := h.lt; omega, h.bel, h.big⟩
theorem DI.keep {w wr : World} {B g n cap : Nat} {L L' : List Tx} {i j : Nat} (h : DI w wr B g n cap L L' i j) (hL : L.length = n) (hj : j < n) (ho : okT L[j] = true) (hg : B ≤ g) : DI w (wr.setCell ⟨g, i, none⟩ (encStr L[j])) B g n cap L (L'.set i L[j]) (i + 1) (j + 1) := by
  obtain ⟨o1, g1⟩ := h.own.stored i (encStr L[j])
  rw [txs_set] at o1
  have hlt := h.lt
  refine ⟨o1, by rw [List.length_set]; exact h.len, ?_, ?_, by omega, h.bel.grown g1 h.big (fun k hk => by injection hk with hk; omega), Nat.le_trans h.big g1.size⟩
  · have hi : i < (L'.set i L[j]).length := by rw [List.length_set, h.len]; omega
    rw [List.take_succ_eq_append_getElem hi, List.take_set_of_le (Nat.le_refl i), h.head, List.getElem_set_self, List.take_succ_eq_append_getElem (show j < L.length by omega), List.filter_append, List.filter_cons, if_pos ho, List.filter_nil]
  · rw [List.drop_set_of_lt (by omega), ← List.drop_drop, ← List.drop_drop, h.tail]

set_option maxHeartbeats 4000000 in
theorem del_any (B n : Nat) (v : Value) (L : List Tx) (w : World) (h : w.ownsRow B 9 1 v n (txs L)) (hB : B ≤ w.heap.size) (hS : Short L) (hn1 : n ≤ 4294967296) :
    Calls Tryz.prog 51 #[v, .func (.func 53) #[] #[]] w (OwnT B w (L.filter okT)) := by
  have eg : ∀ args w, (callFunc 53 args).run Tryz.prog w = .ok (.enter 53 args) w := enters_of Tryz.func53 (by kernel_rfl) rfl
  have hl : L.length = n := by have := h.1; rw [txs_len, Nat.mul_one] at this; exact this
  obtain ⟨A, c, rfl, hc1, hc2, hr⟩ := own_form h
  have HI := Lib.hid (iT_any A L n c w hr hl hS hn1)
  have HO := Lib.hid h; have HL := Lib.hid hl; have HS := Lib.hid hS; have HB := Lib.hid hB
  clear h hl hS hB hr
  go_enter Tryz.func51, Tryz.ntmps51
  go_wp2_with fail
  refine HI.out.mono ?_
  rintro e w1 ⟨i, rfl, hat, hb1⟩
  have HB1 := Lib.hid hb1
  clear hb1 HI
  rcases hat with ⟨rfl, hall⟩ | ⟨k, rfl, hk, hbef, hko⟩
  · have HE := Lib.hid (show L.filter okT = L from List.filter_eq_self.2 hall)
    clear hall
    go_wp2_with fail
    go_ret
    rw [HE.out]
    refine ⟨_, rfl, ?_, HB1.out.mono HB.out⟩
    rw [HL.out]
    exact own_below HO.out HB1.out
  · rw [HL.out] at hk
    have hkne : ((k : Int) == -1) = false := by rw [beq_eq_false_iff_ne]; omega
    obtain ⟨g, cap, hv, hgb⟩ : ∃ g cap, Value.slice A n c = .slice (some ⟨g, 0, none⟩) n cap ∧ B ≤ g := by
      rcases HO.out.2 with ⟨h1, h2⟩ | ⟨g, cap, cur, hv, h1, _⟩
      · omega
      · exact ⟨g, cap, hv, h1⟩
    injection hv with hv1 hv2 hv3
    subst hv1 hv3
    have HST := Lib.hid (show DI w w1 B g n c L L k (k + 1) from ⟨own_below HO.out HB1.out, HL.out, by
        rw [List.take_succ_eq_append_getElem (by rw [HL.out]; exact hk), List.filter_append, List.filter_cons, if_neg (by rw [hko]; exact Bool.false_ne_true), List.filter_nil, List.append_nil, List.filter_eq_self.2 hbef], rfl, by omega, HB1.out.mono HB.out, Nat.le_trans HB.out HB1.out.size⟩)
    have HGB := Lib.hid hgb
    clear hbef hko hgb
    go_wp2_with fail
    go_loopw [5, 6] (fun s5 s6 wr => ∃ (i j : Nat) (L' : List Tx), s5 = .int .i64 i ∧ s6 = .int .i64 j ∧ j ≤ n ∧ i < j ∧ Hid (DI w wr B g n c L L' i j)) (fun _ s6 _ => n - (intOf s6).toNat)
    case atStart => exact ⟨k, k + 1, L, rfl, by go_num, by omega, by omega, HST⟩
    case round =>
      obtain ⟨i, j, L', rfl, rfl, hj, hij, HD⟩ := hrel
      by_cases hlt : j < n
      · have hjl : j < L.length := by rw [HL.out]; exact hlt
        have hcj : wr.cell? ⟨g, j, none⟩ = some (encStr L[j]) := by
          rw [HD.out.own.cellAt j (by omega), txs_get (by rw [HD.out.len]; exact hlt), HD.out.get HL.out hlt]
        obtain ⟨X, hX⟩ : ∃ X : ByteArray, X = ⟨L[j].toArray⟩ := ⟨_, rfl⟩
        have hXl : X.toList = L[j] := by rw [hX, mk_toList]
        have c2 : wr.cell? ⟨g, j, none⟩ = some (.string X) := by rw [hcj, hX]
        have HF := Lib.hid (norm1_any X L[j] hXl (by have := HS.out _ (List.getElem_mem hjl); omega) wr)
        have HX := Lib.hid hX
        clear hcj hX hXl
        cases hb : okT L[j] with
        | false =>
          rw [hb] at HF
          have HD2 := Lib.hid (HD.out.skip HL.out hlt hb)
          clear hb hjl HX
          go_wp2_with (go_at_fn 53; refine HF.out.mono ?_; rintro e w2 ⟨rfl, hb2⟩; have HD3 := Lib.hid (HD2.out.next hb2); clear hb2)
          go_roundw
          case rel => exact ⟨i, j + 1, L', rfl, by go_num, by omega, by omega, HD3⟩
          case measure => simp [intOf]; omega
        | true =>
          rw [hb] at HF
          have HK := Lib.hid (show ∀ w2, Below wr.heap.size wr w2 → DI w (w2.setCell ⟨g, i, none⟩ (.string X)) B g n c L (L'.set i L[j]) (i + 1) (j + 1) from fun w2 h2 => by
            rw [HX.out]; exact (HD.out.next h2).keep HL.out hlt hb HGB.out)
          have HC := Lib.hid (show ∀ w2, Below wr.heap.size wr w2 → (∃ u, w2.cell? ⟨g, i, none⟩ = some u) ∧ w2.frozen? ⟨g, i, none⟩ = false from fun w2 h2 => by
            have hD := HD.out.next h2
            exact ⟨⟨_, by rw [hD.own.cellAt i (by omega), txs_get (by rw [hD.len]; omega)]⟩, hD.own.frozenAt i⟩)
          generalize L'.set i L[j] = L2 at HK
          clear hb hjl HX
          go_wp2_with (go_at_fn 53; refine HF.out.mono ?_; rintro e w2 ⟨rfl, hb2⟩; have HD3 := Lib.hid (HK.out w2 hb2); obtain ⟨⟨u, hu⟩, hfr⟩ := HC.out w2 hb2; clear hb2)
          go_roundw
          case rel => exact ⟨i + 1, j + 1, L2, by go_num, by go_num, by omega, by omega, HD3⟩
          case measure => simp [intOf]; omega
      · have hjn : j = n := by omega
        obtain ⟨v9⟩ : ∃ _ : Nat, True := ⟨0, trivial⟩
        have hcl : ∀ ty, (Builtin.clear_ #[23] ty #[.slice (some ⟨g, i, none⟩) (n - i) (c - i)]).run Tryz.prog wr = .ok (.tuple #[]) (wr.setCells g i (List.replicate (n - i) (encStr []))) :=
          fun ty => Lib.run_clear_slice wr _ _ ty _ Tryz.underlying23 Tryz.zeroValue9 rfl rfl g i _ _ (by omega) (fun t ht => by rw [HD.out.own.cellAt (i + t) (by omega), txs_get (by rw [HD.out.len]; omega)]; rfl) (fun t ht => HD.out.own.frozenAt _)
        obtain ⟨L2, t1, t2, t3, t4⟩ := own_cells B g n c (n - i) i wr L' HD.out.own
        have t5 := own_pre t3 (k := i) (by omega)
        rw [t1, HD.out.head, List.take_of_length_le (by have := HL.out; omega)] at t5
        have hlen : (L.filter okT).length = i := by
          rw [← (show L.take j = L from List.take_of_length_le (by have := HL.out; omega)), ← HD.out.head, List.length_take, HD.out.len]; omega
        have HLEN := Lib.hid hlen
        have HT5 := Lib.hid t5
        have HB9 := Lib.hid (HD.out.bel.grown t4 HD.out.big (fun k hk => by injection hk with hk; have := HGB.out; omega))
        clear t1 t2 t3 t4 t5 hlen hjn
        go_wp2_with fail
        go_ret
        refine ⟨_, rfl, ?_, HB9.out⟩
        rw [HLEN.out]
        exact HT5.out
end Go.Proofs.YtipcbiecdabihaaGreat.Sset
