/-
  CONTRACTS OF THE DOCUMENT's OWN ANSWERS: comparisons of segments and of texts; cut, All, Texts.
-/
import Derived.Test.YtkloohgajfodgaaDoorSegTexts
import Derived.Test.YtkloohgajfodgaaDoorNormRef
namespace Go.Proofs.YtkloohgajfodgaaDoor.Seg
open Go.Shelf Go.RowKit Go.Sort
open Utf hiding infoI32 rd_new own_form rdec_any below_drewN new_any write_any close_any
open Ucd hiding grow same Told
open Norm hiding new_any write_any close_any pending_any pending_nil write_nil write_closed close_nil
set_option maxRecDepth 100000

instance : DecidableEq Sg := fun a b => decidable_of_iff (a.t = b.t ∧ a.a = b.a ∧ a.e = b.e) (by cases a; cases b; simp)
def sameS (a b : List Sg) : Bool := decide (a = b)
def sameB (a b : List ByteArray) : Bool := decide (a = b)
theorem sgFields : Tryd.prog.underlying 47 = some (.struct (Tryd.prog.fieldsOf 47)) := by kernel_rfl
theorem sgHeld : Tryd.prog.stoodInHeld 47 = false := by kernel_rfl
theorem sgGuard : Tryd.prog.eqGuardType Tryd.prog.depth 47 = false := by kernel_rfl
theorem neq_sg (w : World) (a a' : ByteArray) (b c b' c' : Int) : (binOp .neq 47 (.agg #[.string a, .int .i64 b, .int .i64 c]) (.agg #[.string a', .int .i64 b', .int .i64 c'])).run Tryd.prog w = .ok (.bool (!(decide (a = a') && b == b' && c == c'))) w := by
  have u3 := Tryd.underlying3
  have a3 := Tryd.isAgg3
  have z3 := Tryd.sizeOf3
  have u9 := Tryd.underlying9
  have a9 := Tryd.isAgg9
  have z9 := Tryd.sizeOf9
  have hss : (a.toList == a'.toList) = decide (a = a') := by
    by_cases h : a = a'
    · subst h; simp
    · have h2 : ¬ a.toList = a'.toList := by
        intro e; rw [ByteArray.toList_eq, ByteArray.toList_eq] at e; exact h (ByteArray.ext (Array.toList_inj.1 e))
      rw [beq_eq_false_iff_ne.2 h2, decide_eq_false h]
  rw [run_neq_struct, show (10000 : Nat) = 9999 + 1 from rfl, run_equalIn_agg w 9999 _ _ _ sgFields sgHeld]
  simp only [Program.fieldsOf, Tryd.underlying47]
  go_simp
  by_cases h1 : a = a' <;> by_cases h2 : b = b' <;> by_cases h3 : c = c' <;> simp_all
theorem take_succ_sg {a b : List Sg} {k : Nat} (ha : k < a.length) (hb : k < b.length) (h : a.take k = b.take k) (e : a[k] = b[k]) : a.take (k + 1) = b.take (k + 1) := by
  rw [List.take_succ_eq_append_getElem ha, List.take_succ_eq_append_getElem hb, h, e]
theorem take_succ_str {a b : List ByteArray} {k : Nat} (ha : k < a.length) (hb : k < b.length) (h : a.take k = b.take k) (e : a[k] = b[k]) : a.take (k + 1) = b.take (k + 1) := by
  rw [List.take_succ_eq_append_getElem ha, List.take_succ_eq_append_getElem hb, h, e]
theorem bne_str {a a' : ByteArray} (h : a ≠ a') : (a.toList == a'.toList) = false := by
  rw [beq_eq_false_iff_ne]; intro e; rw [ByteArray.toList_eq, ByteArray.toList_eq] at e; exact h (ByteArray.ext (Array.toList_inj.1 e))

set_option maxHeartbeats 2000000 in
theorem rsame_any (A B : Option Addr) (a b : List Sg) (n m c d : Nat) (w : World) (ha : Rd w w.heap.size A (sgs a)) (hb : Rd w w.heap.size B (sgs b)) (hn : a.length = n) (hm : b.length = m) (hn1 : n ≤ 1099511627776) (hm1 : m ≤ 1099511627776) :
    Calls Tryd.prog 14 #[.slice A n c, .slice B m d] w fun e w' => e = .returned (.bool (sameS a b)) ∧ ∃ k, w' = w.drewN k := by
  suffices H : Calls Tryd.prog 14 #[.slice A n c, .slice B m d] w (fun e w' => Hid (e = .returned (.bool (sameS a b)) ∧ ∃ k, w' = w.drewN k)) from H.mono fun e w' h => h.out
  by_cases hnm : n = m
  · subst hnm
    have HN := Lib.hid hn; have HM := Lib.hid hm
    clear hn hm
    go_enter Tryd.func14, Tryd.ntmps14
    go_wp2
    go_loopw [5] (fun i wr => ∃ k j : Nat, k ≤ n ∧ i = .int .i64 k ∧ Hid (a.take k = b.take k) ∧ Hid (wr = w.drewN j)) (fun i _ => n - (intOf i).toNat)
    case atStart => exact ⟨0, 0, Nat.zero_le _, rfl, Lib.hid rfl, Lib.hid rfl⟩
    case round =>
      obtain ⟨k, j, hk, rfl, HT, HJ⟩ := hrel
      by_cases hlt : k < n
      · have hka : k < a.length := by rw [HN.out]; exact hlt
        have hkb : k < b.length := by rw [HM.out]; exact hlt
        obtain ⟨ba, oa, rfl, _⟩ := ha.form (by rw [sgs_len]; omega)
        obtain ⟨bb, ob, rfl, _⟩ := hb.form (by rw [sgs_len]; omega)
        have hwr : ∀ p : Addr, wr.cell? p = w.cell? p := fun p => by rw [HJ.out]; rfl
        obtain ⟨a1, a2, a3⟩ := Rd_sg ha hka
        obtain ⟨b1, b2, b3⟩ := Rd_sg hb hkb
        rw [← hwr] at a1 a2 a3 b1 b2 b3
        have hq : ∀ u : World, _ := fun u => neq_sg u a[k].t b[k].t a[k].a a[k].e b[k].a b[k].e
        have HTS := Lib.hid (take_succ_sg hka hkb HT.out)
        have HNE := Lib.hid (show a[k] ≠ b[k] → sameS a b = false from fun h => by unfold sameS; rw [decide_eq_false]; rintro rfl; exact h rfl)
        obtain ⟨x, hx⟩ : ∃ x, x = a[k] := ⟨_, rfl⟩
        obtain ⟨y, hy⟩ : ∃ y, y = b[k] := ⟨_, rfl⟩
        rw [← hx] at a1 a2 a3 hq HTS HNE
        rw [← hy] at b1 b2 b3 hq HTS HNE
        clear hx hy hwr HT
        by_cases hxy : x = y
        · subst hxy
          have hq' : ∀ u : World, (binOp .neq 47 (.agg #[.string x.t, .int .i64 x.a, .int .i64 x.e]) (.agg #[.string x.t, .int .i64 x.a, .int .i64 x.e])).run Tryd.prog u = .ok (.bool false) u := fun u => by rw [hq u]; simp
          clear hq
          go_wp2_with fail
          go_quiet (fail)
          go_wp2
          go_roundw
          case rel => exact ⟨k + 1, _, by omega, by go_num, Lib.hid (HTS.out trivial), Lib.hid (by rw [HJ.out, World.drewN_drewN])⟩
          case measure => simp [intOf]; omega
        · have hq' : ∀ u : World, (binOp .neq 47 (.agg #[.string x.t, .int .i64 x.a, .int .i64 x.e]) (.agg #[.string y.t, .int .i64 y.a, .int .i64 y.e])).run Tryd.prog u = .ok (.bool true) u := fun u => by
            rw [hq u]
            congr 2
            by_cases h1 : x.t = y.t
            · by_cases h2 : x.a = y.a
              · have h3 : ¬ x.e = y.e := fun h3 => hxy (by cases x; cases y; simp_all)
                have h4 : ((x.e : Int) == (y.e : Int)) = false := by simp; omega
                simp [h4]
              · have h4 : ((x.a : Int) == (y.a : Int)) = false := by simp; omega
                simp [h4]
            · simp [h1]
          have HF := Lib.hid (HNE.out hxy)
          clear hq hxy
          go_wp2_with fail
          go_quiet (fail)
          go_wp2
          go_ret
          exact Lib.hid ⟨by rw [HF.out]; rfl, _, by rw [HJ.out, World.drewN_drewN]⟩
      · have hkn : k = n := by omega
        have HF := Lib.hid (show sameS a b = true by
          have := HT.out
          rw [List.take_of_length_le (by have := HN.out; omega), List.take_of_length_le (by have := HM.out; omega)] at this
          unfold sameS; exact decide_eq_true this)
        clear hkn
        go_wp2
        go_ret
        exact Lib.hid ⟨by rw [HF.out]; rfl, _, HJ.out⟩
  · have hs : sameS a b = false := by unfold sameS; rw [decide_eq_false]; rintro rfl; exact hnm (hn.symm.trans hm)
    have HS := Lib.hid hs
    have hne : ((n : Int) == (m : Int)) = false := by simp; omega
    have hne2 : ((n : Int) != (m : Int)) = true := by simp; omega
    clear hs hn hm hnm
    go_enter Tryd.func14, Tryd.ntmps14
    go_wp2
    go_ret
    exact Lib.hid ⟨by rw [HS.out]; rfl, 0, rfl⟩

set_option maxHeartbeats 2000000 in
theorem sameTexts_any (A B : Option Addr) (a b : List ByteArray) (n m c d : Nat) (w : World) (ha : Rd w w.heap.size A (strs a)) (hb : Rd w w.heap.size B (strs b)) (hn : a.length = n) (hm : b.length = m) (hn1 : n ≤ 1099511627776) (hm1 : m ≤ 1099511627776) :
    Calls Tryd.prog 15 #[.slice A n c, .slice B m d] w fun e w' => e = .returned (.bool (sameB a b)) ∧ ∃ k, w' = w.drewN k := by
  suffices H : Calls Tryd.prog 15 #[.slice A n c, .slice B m d] w (fun e w' => Hid (e = .returned (.bool (sameB a b)) ∧ ∃ k, w' = w.drewN k)) from H.mono fun e w' h => h.out
  by_cases hnm : n = m
  · subst hnm
    have HN := Lib.hid hn; have HM := Lib.hid hm
    clear hn hm
    go_enter Tryd.func15, Tryd.ntmps15
    go_wp2
    go_loopw [5] (fun i wr => ∃ k j : Nat, k ≤ n ∧ i = .int .i64 k ∧ Hid (a.take k = b.take k) ∧ Hid (wr = w.drewN j)) (fun i _ => n - (intOf i).toNat)
    case atStart => exact ⟨0, 0, Nat.zero_le _, rfl, Lib.hid rfl, Lib.hid rfl⟩
    case round =>
      obtain ⟨k, j, hk, rfl, HT, HJ⟩ := hrel
      by_cases hlt : k < n
      · have hka : k < a.length := by rw [HN.out]; exact hlt
        have hkb : k < b.length := by rw [HM.out]; exact hlt
        obtain ⟨ba, oa, rfl, _⟩ := ha.form (by rw [strs_len]; omega)
        obtain ⟨bb, ob, rfl, _⟩ := hb.form (by rw [strs_len]; omega)
        have hwr : ∀ p : Addr, wr.cell? p = w.cell? p := fun p => by rw [HJ.out]; rfl
        have a1 := Rd_str ha hka
        have b1 := Rd_str hb hkb
        rw [← hwr] at a1 b1
        have HTS := Lib.hid (take_succ_str hka hkb HT.out)
        have HNE := Lib.hid (show a[k] ≠ b[k] → sameB a b = false from fun h => by unfold sameB; rw [decide_eq_false]; rintro rfl; exact h rfl)
        obtain ⟨x, hx⟩ : ∃ x, x = a[k] := ⟨_, rfl⟩
        obtain ⟨y, hy⟩ : ∃ y, y = b[k] := ⟨_, rfl⟩
        rw [← hx] at a1 HTS HNE
        rw [← hy] at b1 HTS HNE
        clear hx hy hwr HT
        by_cases hxy : x = y
        · subst hxy
          have he1 : (x.toList == x.toList) = true := by simp
          have he2 : (x.toList != x.toList) = false := by simp
          go_wp2_with fail
          go_quiet (fail)
          go_wp2
          go_roundw
          case rel => exact ⟨k + 1, _, by omega, by go_num, Lib.hid (HTS.out trivial), Lib.hid (by rw [HJ.out, World.drewN_drewN])⟩
          case measure => simp [intOf]; omega
        · have he1 := bne_str hxy
          have he2 : (x.toList != y.toList) = true := by rw [bne, he1]; rfl
          have HF := Lib.hid (HNE.out hxy)
          clear hxy
          go_wp2_with fail
          go_quiet (fail)
          go_wp2
          go_ret
          exact Lib.hid ⟨by rw [HF.out]; rfl, _, by rw [HJ.out, World.drewN_drewN]⟩
      · have hkn : k = n := by omega
        have HF := Lib.hid (show sameB a b = true by
          have := HT.out
          rw [List.take_of_length_le (by have := HN.out; omega), List.take_of_length_le (by have := HM.out; omega)] at this
          unfold sameB; exact decide_eq_true this)
        clear hkn
        go_wp2
        go_ret
        exact Lib.hid ⟨by rw [HF.out]; rfl, _, HJ.out⟩
  · have hs : sameB a b = false := by unfold sameB; rw [decide_eq_false]; rintro rfl; exact hnm (hn.symm.trans hm)
    have HS := Lib.hid hs
    have hne : ((n : Int) == (m : Int)) = false := by simp; omega
    have hne2 : ((n : Int) != (m : Int)) = true := by simp; omega
    clear hs hn hm hnm
    go_enter Tryd.func15, Tryd.ntmps15
    go_wp2
    go_ret
    exact Lib.hid ⟨by rw [HS.out]; rfl, 0, rfl⟩
end Go.Proofs.YtkloohgajfodgaaDoor.Seg
