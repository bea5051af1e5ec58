/-
  CONTRACT OF THE DOCUMENT's At: the code point at a place, its width, and whether it is a beginning that the bytes end in.
-/
import Derived.Test.YtipcbiecdabihaaGreatUtfRow
namespace Go.Proofs.YtipcbiecdabihaaGreat.Utf
open Go.RowKit
set_option maxRecDepth 100000

def pb (x k : Nat) : Nat := if k = 1 then lo x else 128
def qb (x k : Nat) : Nat := if k = 1 then hi x else 191
theorem bnd_len : ∀ x : Fin 256, need x.val ≠ 0 → (bndN x.val).length = 2 * (need x.val - 1) := by decide +kernel
theorem bnd_at : ∀ x : Fin 256, ∀ k : Fin 4, 1 ≤ k.val → k.val < need x.val → (bndN x.val)[2 * k.val - 2]? = some (pb x.val k.val) ∧ (bndN x.val)[2 * k.val - 1]? = some (qb x.val k.val) := by decide +kernel
theorem pb_lt (x k : Nat) : pb x k ≤ 255 := by unfold pb lo; repeat (split <;> try omega)
theorem qb_lt (x k : Nat) : qb x k ≤ 255 := by unfold qb hi; repeat (split <;> try omega)
theorem run_at {l : List UInt8} {x k n : Nat} (hk : k < l.length) (h0 : 1 ≤ k) (h1 : k < n) (h2 : pb x k ≤ l[k].toNat) (h3 : l[k].toNat ≤ qb x k) :
    run k n (pb x k) (qb x k) (l.drop k) = run (k + 1) n (pb x (k + 1)) (qb x (k + 1)) (l.drop (k + 1)) := by
  rw [run_go hk h1 h2 h3]
  have e : ¬ k + 1 = 1 := by omega
  unfold pb qb
  rw [if_neg e, if_neg e]

def Piece (w : World) (d : List UInt8) (e : Ending) (w' : World) : Prop :=
  e = .returned (.tuple #[.int .i32 (rune d), .int .i64 (wid d), .bool (more d)]) ∧ Below w.heap.size w w'

theorem below_drewN {B : Nat} {u v : World} (h : Below B u v) (k : Nat) : Below B u (v.drewN k) := ⟨h.os, h.tape, h.output, h.size, h.block⟩
theorem piece_bad {w w' : World} {d : List UInt8} {N M a k n : Nat} (hM : M = wid d) (hN : nd d = N) (hk : k = M) (hlt : k < N) (hl : d.length = n - a) (ha : a < n) (hb : Below w.heap.size w w') :
    Piece w d (.returned (.tuple #[.int .i32 65533, .int .i64 k, .bool ((a : Int) + (k : Int) == (n : Int))])) w' := by
  subst hk hM hN
  refine ⟨?_, hb⟩
  have h1 : rune d = 65533 := by unfold rune; rw [if_neg (by omega)]
  have h2 : ((a : Int) + (wid d : Int) == (n : Int)) = more d := by
    rw [Bool.eq_iff_iff, more_iff, beq_iff_eq]
    constructor
    · intro h; exact ⟨hlt, by omega⟩
    · intro ⟨_, h⟩; omega
  rw [h1, h2]; rfl
theorem piece_good {w w' : World} {d : List UInt8} {M N J k : Nat} (hM : M = wid d) (hN : nd d = N) (hk : k = M) (hkN : k = N) (hJ : joined (d.take k) = J) (hb : Below w.heap.size w w') :
    Piece w d (.returned (.tuple #[.int .i32 J, .int .i64 k, .bool false])) w' := by
  subst hk hM hJ
  refine ⟨?_, hb⟩
  have h1 : rune d = joined (d.take (wid d)) := by unfold rune; rw [if_pos (by omega)]
  have h2 : more d = false := by unfold more; rw [decide_eq_false (by omega)]; rfl
  rw [h1, h2]

set_option maxHeartbeats 4000000 in
theorem at_any (A : Option Addr) (l : List UInt8) (n c a : Nat) (w : World) (hr : Rd w w.heap.size A (bys l)) (hn : l.length = n) (ha : a < n) (hb : n ≤ 1099511627776) :
    Calls Tryz.prog 69 #[.slice A n c, .int .i64 a] w (Piece w (l.drop a)) := by
  obtain ⟨b, o, rfl, hbH⟩ := hr.form (by rw [bys_len]; omega)
  have hrd : Rd w w.heap.size (some ⟨b, o + a, none⟩) (bys (l.drop a)) := by have := hr.drop_ a; rwa [bys_drop] at this
  have hdl : (l.drop a).length = n - a := by rw [rest_len, hn]
  obtain ⟨d, hd⟩ : ∃ d, d = l.drop a := ⟨_, rfl⟩
  rw [← hd] at hrd hdl ⊢
  clear hd hr hn
  cases d with
  | nil => simp at hdl; omega
  | cons q t =>
  have hcell0 : w.cell? ⟨b, o + a, none⟩ = some (.int .u8 q.toNat) := hrd.byte (k := 0) (by simp)
  have hq : q.toNat < 256 := q.toNat_lt
  obtain ⟨x, hx⟩ : ∃ x, x = q.toNat := ⟨_, rfl⟩
  have hrow := row_any q.toNat hq w
  rw [← hx] at hcell0 hq hrow
  have hwid : wid (q :: t) = run 1 (need x) (pb x 1) (qb x 1) ((q :: t).drop 1) := by subst hx; rfl
  have hnd : nd (q :: t) = need x := by subst hx; rfl
  have HR := Lib.hid hrow
  have HX := Lib.hid hx
  clear hx hrow
  have hpos : (0 : Int) ≤ (a : Int) := by omega
  by_cases hz : need x = 0
  · have hw1 : wid (q :: t) = 1 := by rw [hwid, hz]; exact run_zero _ _ _ _ _ (by omega)
    have hF : rune (q :: t) = 65533 := by unfold rune; rw [if_neg (by rw [hw1, hnd]; omega)]
    have hM : more (q :: t) = false := by unfold more; rw [hw1, hnd, hz]; simp
    have hdec : decide (need x ≠ 0) = false := by simp [hz]
    have HF := Lib.hid hF; have HM := Lib.hid hM; have HW := Lib.hid hw1; have HD := Lib.hid hdec
    clear hF hM hw1 hdec hz hnd hwid
    go_enter Tryz.func69, Tryz.ntmps69
    go_wp2_with fail
    refine HR.out.mono ?_
    rintro e w1 ⟨B', m, rfl, hm, hrb, hbel⟩
    rw [HD.out]
    go_wp2
    go_ret3
    exact ⟨by rw [HF.out, HM.out, HW.out]; rfl, hbel⟩
  · have hdec : decide (need x ≠ 0) = true := by simp [hz]
    have hbl := bnd_len ⟨x, hq⟩ hz
    have hba := bnd_at ⟨x, hq⟩
    have hn4 := need_le x
    have hNn := run_need t 1 (need x) (pb x 1) (qb x 1) (by omega)
    simp only at hbl hba
    have HW := Lib.hid hwid; have HD := Lib.hid hdec; have HBA := Lib.hid hba; have HND := Lib.hid hnd
    clear hwid hdec hba hnd hNn
    obtain ⟨N, hN⟩ : ∃ N, N = need x := ⟨_, rfl⟩
    have HN := Lib.hid hN
    rw [← hN] at hbl hn4 hz
    clear hN
    have HBL := Lib.hid hbl
    clear hbl
    obtain ⟨M, hM⟩ : ∃ M, M = wid (q :: t) := ⟨_, rfl⟩
    have HM := Lib.hid hM
    clear hM
    have HRD := Lib.hid hrd
    clear hrd
    go_enter Tryz.func69, Tryz.ntmps69
    go_wp2_with fail
    refine HR.out.mono ?_
    rintro e w1 ⟨B', m, rfl, hm, hrb, hbel⟩
    rw [HD.out]
    have hm2 : m ≤ 2 * (N - 1) ∧ 2 * (N - 1) ≤ m := by have := HBL.out; omega
    have HMm := Lib.hid hm
    obtain ⟨hm3, hm4⟩ := hm2
    clear hm
    have hrd1 : Rd w1 w.heap.size (some ⟨b, o + a, none⟩) (bys (q :: t)) := HRD.out.below hbel
    have hcell1 : w1.cell? ⟨b, o + a, none⟩ = some (.int .u8 x) := (hbel.cell (p := ⟨b, o + a, none⟩) hbH).trans hcell0
    clear hcell0
    go_wp2
    go_loopw [9] (fun i wr => ∃ k : Nat, 1 ≤ k ∧ k ≤ N ∧ k ≤ n - a ∧ Hid (run k N (pb x k) (qb x k) ((q :: t).drop k) = M) ∧ i = .int .i64 k ∧ Below w1.heap.size w1 wr)
      (fun i _ => N - (intOf i).toNat)
    case atStart => exact ⟨1, Nat.le_refl _, by omega, by omega, Lib.hid (by rw [HM.out, HW.out, HN.out]), rfl, Below.refl _ _⟩
    case round =>
      obtain ⟨k, hk1, hkN, hka, HRun, rfl, hbr⟩ := hrel
      have hcr : wr.cell? ⟨b, o + a, none⟩ = some (.int .u8 x) := (hbr.cell (p := ⟨b, o + a, none⟩) (Nat.lt_of_lt_of_le hbH hbel.size)).trans hcell1
      by_cases hgo : k < N ∧ k < n - a
      · obtain ⟨h1, h2⟩ := hgo
        have hlen := hdl
        have hkl : k < (q :: t).length := by omega
        have hcy : wr.cell? ⟨b, o + (a + k), none⟩ = some (.int .u8 (q :: t)[k].toNat) := by
          have h := (hrd1.more hbel.size).below hbr
          have := h.byte hkl
          rwa [show o + a + k = o + (a + k) from by omega] at this
        have hbnd := HBA.out ⟨k, by omega⟩ (by simpa using hk1) (by have := HN.out; simpa using (show k < need x by omega))
        simp only at hbnd
        obtain ⟨g, og, rfl, hgB⟩ := hrb.form (by rw [u8s_len]; have := HMm.out; omega)
        have hrb2 := hrb.below hbr
        have hm' := HMm.out
        have hcp : wr.cell? ⟨g, og + (2 * k - 2), none⟩ = some (.int .u8 (pb x k)) := by
          have := hrb2.u8 (k := 2 * k - 2) (by omega)
          rw [this]; have e := hbnd.1; rw [List.getElem?_eq_getElem (by omega)] at e; simp only [Option.some.injEq] at e; rw [e]
        have hcq : wr.cell? ⟨g, og + (2 * k - 1), none⟩ = some (.int .u8 (qb x k)) := by
          have := hrb2.u8 (k := 2 * k - 1) (by omega)
          rw [this]; have e := hbnd.2; rw [List.getElem?_eq_getElem (by omega)] at e; simp only [Option.some.injEq] at e; rw [e]
        have hy255 : (q :: t)[k].toNat < 256 := (q :: t)[k].toNat_lt
        have hrun1 := run_at (x := x) (n := N) hkl hk1 h1
        have hrun2 : ¬ (pb x k ≤ (q :: t)[k].toNat ∧ (q :: t)[k].toNat ≤ qb x k) → run k N (pb x k) (qb x k) ((q :: t).drop k) = k := fun h => run_end (fun ⟨_, _, h'⟩ => h h')
        obtain ⟨y, hy⟩ : ∃ y, y = (q :: t)[k].toNat := ⟨_, rfl⟩
        have hpl := pb_lt x k
        have hql := qb_lt x k
        obtain ⟨P, hP⟩ : ∃ P, P = pb x k := ⟨_, rfl⟩
        obtain ⟨Q, hQ⟩ : ∃ Q, Q = qb x k := ⟨_, rfl⟩
        rw [← hy] at hcy hy255 hrun1 hrun2
        rw [← hP] at hcp hpl hrun1 hrun2
        rw [← hQ] at hcq hql hrun1 hrun2
        have HR1 := Lib.hid hrun1; have HR2 := Lib.hid hrun2; have HP := Lib.hid hP; have HQ := Lib.hid hQ; have HM1 := Lib.hid hm'; have HDL := Lib.hid hdl
        clear hrun1 hrun2 hP hQ hm' hy hlen hbnd hdl hkl hrb2
        have e1 : IntKind.i64.wrap ((m : Int) / 2) = (m : Int) / 2 := IntWalk.i64_in _ (by omega)
        have e2 : IntKind.i64.wrap ((a : Int) + (k : Int)) = (a : Int) + (k : Int) := IntWalk.i64_in _ (by omega)
        have d1 : decide ((k : Int) ≤ (m : Int) / 2) = true := by simp; omega
        have d2 : decide ((a : Int) + (k : Int) < (n : Int)) = true := by simp; omega
        by_cases h3 : P ≤ y
        · have d3 : decide ((P : Int) ≤ (y : Int)) = true := by simp; omega
          by_cases h4 : y ≤ Q
          · have d4 : decide ((y : Int) ≤ (Q : Int)) = true := by simp; omega
            go_wp2_with fail
            go_quiet (fail)
            go_wp2
            go_roundw
            case rel => exact ⟨k + 1, by omega, by omega, by omega, Lib.hid ((HR1.out h3 h4).symm.trans (by rw [HP.out, HQ.out]; exact HRun.out)), by go_num, below_drewN hbr _⟩
            case measure => simp [intOf]; omega
          · have d4 : decide ((y : Int) ≤ (Q : Int)) = false := by simp; omega
            have HK := Lib.hid (show k = M from (HR2.out (fun h => h4 h.2)).symm.trans (by rw [HP.out, HQ.out]; exact HRun.out))
            go_wp2_with fail
            go_quiet (fail)
            clear e1 e2
            go_wp2
            go_ret3
            exact piece_bad HM.out (HND.out.trans HN.out.symm) HK.out h1 HDL.out ha (hbel.trans ((below_drewN hbr _).mono hbel.size))
        · have d3 : decide ((P : Int) ≤ (y : Int)) = false := by simp; omega
          have HK := Lib.hid (show k = M from (HR2.out (fun h => h3 h.1)).symm.trans (by rw [HP.out, HQ.out]; exact HRun.out))
          go_wp2_with fail
          go_quiet (fail)
          go_wp2
          go_ret3
          exact piece_bad HM.out (HND.out.trans HN.out.symm) HK.out h1 HDL.out ha (hbel.trans ((below_drewN hbr _).mono hbel.size))
      · have HK := Lib.hid (show k = M from by rw [← HRun.out]; exact (run_end (fun ⟨h, h', _⟩ => hgo ⟨h, by rw [← hdl]; exact h'⟩)).symm)
        have HDL := Lib.hid hdl
        clear hdl
        by_cases h1 : k < N
        · have d1 : decide ((k : Int) ≤ (m : Int) / 2) = true := by simp; omega
          have d2 : decide ((a : Int) + (k : Int) < (n : Int)) = false := by simp; omega
          have d2' : ¬ (a : Int) + (k : Int) < (n : Int) := by omega
          clear hgo
          go_wp2_with fail
          go_quiet (fail)
          go_wp2
          go_ret3
          exact piece_bad HM.out (HND.out.trans HN.out.symm) HK.out h1 HDL.out ha (hbel.trans ((below_drewN hbr _).mono hbel.size))
        · have e1 : IntKind.i64.wrap ((m : Int) / 2) = (m : Int) / 2 := IntWalk.i64_in _ (by omega)
          have d1 : decide ((k : Int) ≤ (m : Int) / 2) = false := by simp; omega
          have hkn : k = N := by omega
          have HKN := Lib.hid hkn
          clear hgo hkn
          by_cases hk1' : k = 1
          · subst hk1'
            have HJ := Lib.hid (show joined ((q :: t).take 1) = x by simp [joined, joinTo, lead, HX.out])
            have d1' : decide ((1 : Int) ≤ (m : Int) / 2) = false := d1
            have d1'' : ¬ (1 : Int) ≤ (m : Int) / 2 := by simpa using d1'
            clear d1
            go_wp2_with fail
            go_quiet (fail)
            go_wp2
            go_ret3
            exact piece_good HM.out (HND.out.trans HN.out.symm) HK.out HKN.out HJ.out (hbel.trans ((below_drewN hbr _).mono hbel.size))
          · have hM1 : M = wid (q :: t) := HM.out
            have hwl := wid_le (q :: t)
            have hklen : k ≤ t.length + 1 := by have := HK.out; simp only [List.length_cons] at hwl; omega
            have hs : (t.take (k - 1)).length = k - 1 := by rw [List.length_take]; omega
            have hjoin : joined ((q :: t).take k) = joinTo (lead x k) (t.take (k - 1)) := by
              obtain ⟨k', rfl⟩ : ∃ k', k = k' + 1 := ⟨k - 1, by omega⟩
              rw [List.take_succ_cons]
              simp only [joined]
              rw [Nat.add_sub_cancel] at hs ⊢
              rw [hs, ← HX.out]
            have hcs : ∀ i (h : i < (t.take (k - 1)).length), ∀ u, Below w1.heap.size w1 u → u.cell? ⟨b, o + (a + (i + 1)), none⟩ = some (.int .u8 (t.take (k - 1))[i].toNat) := by
              intro i h u hu
              have hd1 := (hrd1.more hbel.size).below hu
              have := hd1.byte (k := i + 1) (by simp only [List.length_cons]; omega)
              rw [show o + (a + (i + 1)) = o + a + (i + 1) from by omega, this]
              simp
            obtain ⟨s, hs'⟩ : ∃ s, s = t.take (k - 1) := ⟨_, rfl⟩
            rw [← hs'] at hs hjoin hcs
            obtain ⟨J, hJ⟩ : ∃ J, J = joinTo (lead x k) s := ⟨_, rfl⟩
            rw [← hJ] at hjoin
            have HJ := Lib.hid hJ; have HJo := Lib.hid hjoin; have HS := Lib.hid hs; have HCS := Lib.hid hcs
            clear hs' hs hjoin hcs hJ hM1 hwl
            obtain ⟨b1, b2, b3, b4⟩ := need_bounds ⟨x, hq⟩
            simp only [← HN.out, ← HKN.out] at b1 b2 b3 b4
            have hcase : (k = 2 ∧ 194 ≤ x ∧ x ≤ 223) ∨ (k = 3 ∧ 224 ≤ x ∧ x ≤ 239) ∨ (k = 4 ∧ 240 ≤ x ∧ x ≤ 244) := by omega
            clear b1 b2 b3 b4
            rcases hcase with ⟨rfl, h3, h4⟩ | ⟨rfl, h3, h4⟩ | ⟨rfl, h3, h4⟩
            all_goals
              have HL : Hid (lead x s.length.succ < 64 ∧ (lead x s.length.succ + 1) * 64 ^ s.length ≤ 2097152) := by
                rw [HS.out, lead_ne _ _ (by omega)]; simp only [Nat.reduceAdd, Nat.reduceSub, Nat.reducePow, Nat.succ_eq_add_one]; exact ⟨by omega, by omega⟩
              first | rw [show ((2 : Nat) : Int) = 2 from rfl] at d1 | rw [show ((3 : Nat) : Int) = 3 from rfl] at d1 | rw [show ((4 : Nat) : Int) = 4 from rfl] at d1
              have d1'' := of_decide_eq_false d1
              go_wp2_with fail
              go_quiet (fail)
              go_wp2_with fail
              go_quiet (fail)
              go_wp2_with fail
              go_loop [10, 11] (fun r i => ∃ j z : Nat, j ≤ 3 ∧ Hid (j ≤ s.length) ∧ Hid (joinTo z (s.drop j) = J) ∧ Hid ((z + 1) * 64 ^ (s.length - j) ≤ 2097152) ∧ z ≤ 2097151 ∧ r = .int .i32 z ∧ i = .int .i64 ((j : Int) + 1))
                (fun _ i => 5 - (intOf i).toNat)
              case atStart =>
                refine ⟨0, lead x s.length.succ, by omega, Nat.zero_le _, Lib.hid (by rw [HS.out]; exact HJ.out.symm), HL.out.2, by have := HL.out.1; omega, ?_, rfl⟩
                rw [HS.out, lead_ne _ _ (by omega)]; simp only [Nat.reduceAdd, Nat.reduceSub, Nat.reducePow, Nat.succ_eq_add_one]; congr 1
              case round =>
                obtain ⟨j, z, hj, HJL, HRn, HB, hz1, rfl, rfl⟩ := hrel
                by_cases h1 : j < s.length
                · have hcell := HCS.out j h1 wr hbr
                  have hlt : s[j].toNat < 256 := s[j].toNat_lt
                  have HG := Lib.hid (show joinTo (z * 64 + s[j].toNat % 64) (s.drop (j + 1)) = J from (joinTo_go h1).symm.trans HRn.out)
                  obtain ⟨g1, g2⟩ := grow_go (y := s[j].toNat) h1 HB.out
                  have HB' := Lib.hid g2
                  have hk1 := h1
                  rw [HS.out] at hk1
                  clear g2
                  obtain ⟨y, hy⟩ : ∃ y, y = s[j].toNat := ⟨_, rfl⟩
                  rw [← hy] at hcell hlt HG HB'
                  have HK1 : Hid (j + 1 ≤ s.length) := h1
                  clear hy h1 HRn HB HL HJ d1
                  go_wp2
                  go_round
                  case rel => exact ⟨j + 1, by omega, HK1, z * 64 + y % 64, HG, HB', by omega, by go_num, by go_num⟩
                  case measure => simp [intOf]; omega
                · have hjs : j = s.length := by have := HJL.out; omega
                  have HE2 := Lib.hid (show z = J by rw [← HRn.out, List.drop_eq_nil_of_le (by omega)]; rfl)
                  rw [HS.out] at hjs
                  simp only [Nat.reduceSub] at hjs
                  subst hjs
                  clear HRn HB HL HJ d1
                  go_wp2
                  go_ret3
                  exact piece_good HM.out (HND.out.trans HN.out.symm) HK.out HKN.out (HJo.out.trans HE2.out.symm) (hbel.trans ((below_drewN hbr _).mono hbel.size))
end Go.Proofs.YtipcbiecdabihaaGreat.Utf
