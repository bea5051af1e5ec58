/-
  CONTRACT OF Same: the same points?
-/
import Derived.Test.YtginlfofijbpjaaUtfRead
namespace Go.Proofs.Ytginlfofijbpjaa.Utf
open Go.RowKit

def same (a b : List Pt) : Bool := decide (a = b)

theorem ptFields : Try.prog.underlying 37 = some (.struct (Try.prog.fieldsOf 37)) := by kernel_rfl
theorem ptHeld : Try.prog.stoodInHeld 37 = false := by kernel_rfl
theorem ptGuard : Try.prog.eqGuardType Try.prog.depth 37 = false := by kernel_rfl
theorem neq_pt (w : World) (a b c a' b' c' : Int) : (binOp .neq 37 (.agg #[.int .i32 a, .int .i64 b, .int .i64 c]) (.agg #[.int .i32 a', .int .i64 b', .int .i64 c'])).run Try.prog w = .ok (.bool (!(a == a' && b == b' && c == c'))) w := by
  have u3 := Try.underlying3
  have a3 := Try.isAgg3
  have z3 := Try.sizeOf3
  have u21 := Try.underlying21
  have a21 := Try.isAgg21
  have z21 := Try.sizeOf21
  rw [run_neq_struct, show (10000 : Nat) = 9999 + 1 from rfl, run_equalIn_agg w 9999 _ _ _ ptFields ptHeld]
  simp only [Program.fieldsOf, Try.underlying37]
  go_simp
  by_cases h1 : a = a' <;> by_cases h2 : b = b' <;> by_cases h3 : c = c' <;> simp [h1, h2, h3]
theorem take_succ_eq {a b : List Pt} {k : Nat} (ha : k < a.length) (hb : k < b.length) (h : a.take k = b.take k) (e : a[k] = b[k]) : a.take (k + 1) = b.take (k + 1) := by
  rw [List.take_succ_eq_append_getElem ha, List.take_succ_eq_append_getElem hb, h, e]

set_option maxHeartbeats 2000000 in
theorem same_any (A B : Option Addr) (a b : List Pt) (n m c d : Nat) (w : World) (ha : Rd w w.heap.size A (pts a)) (hb : Rd w w.heap.size B (pts b)) (hn : a.length = n) (hm : b.length = m) (hn1 : n ≤ 1099511627776) (hm1 : m ≤ 1099511627776) :
    Calls Try.prog 11 #[.slice A n c, .slice B m d] w fun e w' => e = .returned (.bool (same a b)) ∧ ∃ k, w' = w.drewN k := by
  suffices H : Calls Try.prog 11 #[.slice A n c, .slice B m d] w (fun e w' => Hid (e = .returned (.bool (same a b)) ∧ ∃ k, w' = w.drewN k)) from H.mono fun e w' h => h.out
  by_cases hnm : n = m
  · subst hnm
    have HN := Lib.hid hn; have HM := Lib.hid hm
    clear hn hm
    go_enter Try.func11, Try.ntmps11
    go_wp2
    go_loopw [5] (fun i wr => ∃ k j : Nat, k ≤ n ∧ i = .int .i64 k ∧ Hid (a.take k = b.take k) ∧ Hid (wr = w.drewN j)) (fun i _ => n - (intOf i).toNat)
    case atStart => exact ⟨0, 0, Nat.zero_le _, rfl, Lib.hid rfl, Lib.hid rfl⟩
    case round =>
      obtain ⟨k, j, hk, rfl, HT, HJ⟩ := hrel
      by_cases hlt : k < n
      · have hka : k < a.length := by rw [HN.out]; exact hlt
        have hkb : k < b.length := by rw [HM.out]; exact hlt
        obtain ⟨ba, oa, rfl, _⟩ := ha.form (by rw [pts_len]; omega)
        obtain ⟨bb, ob, rfl, _⟩ := hb.form (by rw [pts_len]; omega)
        have hwr : ∀ p : Addr, wr.cell? p = w.cell? p := fun p => by rw [HJ.out]; rfl
        obtain ⟨a1, a2, a3⟩ := ha.pt hka
        obtain ⟨b1, b2, b3⟩ := hb.pt hkb
        rw [← hwr] at a1 a2 a3 b1 b2 b3
        have hq : ∀ u : World, _ := fun u => neq_pt u a[k].r a[k].p a[k].w b[k].r b[k].p b[k].w
        have HTS := Lib.hid (take_succ_eq hka hkb HT.out)
        have HNE := Lib.hid (show a[k] ≠ b[k] → same a b = false from fun h => by unfold same; rw [decide_eq_false]; rintro rfl; exact h rfl)
        obtain ⟨x, hx⟩ : ∃ x, x = a[k] := ⟨_, rfl⟩
        obtain ⟨y, hy⟩ : ∃ y, y = b[k] := ⟨_, rfl⟩
        rw [← hx] at a1 a2 a3 hq HTS HNE
        rw [← hy] at b1 b2 b3 hq HTS HNE
        clear hx hy hwr HT
        by_cases hxy : x = y
        · subst hxy
          have hq' : ∀ u : World, (binOp .neq 37 (.agg #[.int .i32 x.r, .int .i64 x.p, .int .i64 x.w]) (.agg #[.int .i32 x.r, .int .i64 x.p, .int .i64 x.w])).run Try.prog u = .ok (.bool false) u := fun u => by rw [hq u]; simp
          clear hq
          go_wp2_with fail
          go_quiet (fail)
          go_wp2
          go_roundw
          case rel => exact ⟨k + 1, _, by omega, by go_num, Lib.hid (HTS.out trivial), Lib.hid (by rw [HJ.out, World.drewN_drewN])⟩
          case measure => simp [intOf]; omega
        · have hq' : ∀ u : World, (binOp .neq 37 (.agg #[.int .i32 x.r, .int .i64 x.p, .int .i64 x.w]) (.agg #[.int .i32 y.r, .int .i64 y.p, .int .i64 y.w])).run Try.prog u = .ok (.bool true) u := fun u => by
            rw [hq u]
            congr 2
            cases x; cases y
            simp only [Pt.mk.injEq, not_and] at hxy
            simp
            omega
          have HF := Lib.hid (HNE.out hxy)
          clear hq hxy
          go_wp2_with fail
          go_quiet (fail)
          go_wp2
          go_ret
          exact Lib.hid ⟨by rw [HF.out]; rfl, _, by rw [HJ.out, World.drewN_drewN]⟩
      · have hkn : k = n := by omega
        have HF := Lib.hid (show same a b = true by
          have := HT.out
          rw [List.take_of_length_le (by have := HN.out; omega), List.take_of_length_le (by have := HM.out; omega)] at this
          unfold same; exact decide_eq_true this)
        clear hkn
        go_wp2
        go_ret
        exact Lib.hid ⟨by rw [HF.out]; rfl, _, HJ.out⟩
  · have hs : same a b = false := by unfold same; rw [decide_eq_false]; rintro rfl; exact hnm (hn.symm.trans hm)
    have HS := Lib.hid hs
    have hne : ((n : Int) == (m : Int)) = false := by simp; omega
    have hne2 : ((n : Int) != (m : Int)) = true := by simp; omega
    clear hs hn hm hnm
    go_enter Try.func11, Try.ntmps11
    go_wp2
    go_ret
    exact Lib.hid ⟨by rw [HS.out]; rfl, 0, rfl⟩
end Go.Proofs.Ytginlfofijbpjaa.Utf
