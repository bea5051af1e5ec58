/-
  Whatever size and whatever numbers of eight bits there are: sets over each of the four kinds of integers answer alike, and have the same numbers in the same order. Conditions: none.
-/
import Derived.Test.YtckdjbonplpknaaSparseOpen
namespace Go.Proofs.Ytckdjbonplpknaa.LawSparseKinds
open Go.ChangeShapes Go.WideShapes Go.ChangeAt Go.RowKit Mem Sparse
set_option maxRecDepth 100000


def puts (N : Nat) (l : List Int) : List Int := l.foldl (put N) []
theorem puts_snoc (N : Nat) (l : List Int) (x : Int) : puts N (l ++ [x]) = put N (puts N l) x := by unfold puts; rw [List.foldl_append]; rfl
theorem mem_put {N : Nat} {l : List Int} {x : Int} (h : ∀ y ∈ l, 0 ≤ y ∧ y < N) (hx : 0 ≤ x) : decide (x ∈ put N l x) = decide (x < (N : Int)) := by
  by_cases hf : fresh N l x = true
  · rw [put_yes hf, decide_eq_true (by simp), decide_eq_true (fresh_iff.1 hf).2.1]
  · have hf' : fresh N l x = false := by simpa using hf
    rw [put_no hf']
    by_cases hm : x ∈ l
    · rw [decide_eq_true hm, decide_eq_true (h x hm).2]
    · rw [decide_eq_false hm, decide_eq_false fun hn => hf (fresh_iff.2 ⟨hx, hn, hm⟩)]
/-- four sets that share nothing -/
structure Quad (B : Nat) (w wr : World) (N : Nat) (g1 p1 : Nat) (u1 : Value) (l1 : List Int) (g2 p2 : Nat) (u2 : Value) (l2 : List Int) (g3 p3 : Nat) (u3 : Value) (l3 : List Int) (g4 p4 : Nat) (u4 : Value) (l4 : List Int) : Prop where
  s1 : Ss 64 5 .u8 wr B g1 p1 u1 N l1
  s2 : Ss 66 38 .u16 wr B g2 p2 u2 N l2
  s3 : Ss 68 21 .i32 wr B g3 p3 u3 N l3
  s4 : Ss 70 3 .i64 wr B g4 p4 u4 N l4
  d12 : Dj g1 p1 u1 g2 p2 u2
  d13 : Dj g1 p1 u1 g3 p3 u3
  d14 : Dj g1 p1 u1 g4 p4 u4
  d23 : Dj g2 p2 u2 g3 p3 u3
  d24 : Dj g2 p2 u2 g4 p4 u4
  d34 : Dj g3 p3 u3 g4 p4 u4
  below : Below B w wr
section
variable {B : Nat} {w wr w1 : World} {N : Nat} {g1 p1 : Nat} {u1 : Value} {l1 : List Int} {g2 p2 : Nat} {u2 : Value} {l2 : List Int} {g3 p3 : Nat} {u3 : Value} {l3 : List Int} {g4 p4 : Nat} {u4 : Value} {l4 : List Int} {v : Value} {nxt : List Int}
theorem Quad.next (h : Quad B w wr N g1 p1 u1 l1 g2 p2 u2 l2 g3 p3 u3 l3 g4 p4 u4 l4) (hb : Below wr.heap.size wr w1) (hB : B ≤ wr.heap.size) : Quad B w w1 N g1 p1 u1 l1 g2 p2 u2 l2 g3 p3 u3 l3 g4 p4 u4 l4 := ⟨h.s1.next hb, h.s2.next hb, h.s3.next hb, h.s4.next hb, h.d12, h.d13, h.d14, h.d23, h.d24, h.d34, h.below.trans (hb.mono hB)⟩
theorem Quad.t1 (h : Quad B w wr N g1 p1 u1 l1 g2 p2 u2 l2 g3 p3 u3 l3 g4 p4 u4 l4) (h1 : Ss 64 5 .u8 w1 B g1 p1 v N nxt) (hc : Chg wr w1 (Ft g1 p1 u1)) (hg : Grew wr u1 v) (hB : B ≤ wr.heap.size) : Quad B w w1 N g1 p1 v nxt g2 p2 u2 l2 g3 p3 u3 l3 g4 p4 u4 l4 :=
  ⟨h1, h.s2.keep hc fun i hi hf => h.d12 i hf hi, h.s3.keep hc fun i hi hf => h.d13 i hf hi, h.s4.keep hc fun i hi hf => h.d14 i hf hi, h.d12.grew h.s2 hg, h.d13.grew h.s3 hg, h.d14.grew h.s4 hg, h.d23, h.d24, h.d34, h.below.trans (hc.below hB fun _ hi => h.s1.low hi)⟩
theorem Quad.t2 (h : Quad B w wr N g1 p1 u1 l1 g2 p2 u2 l2 g3 p3 u3 l3 g4 p4 u4 l4) (h1 : Ss 66 38 .u16 w1 B g2 p2 v N nxt) (hc : Chg wr w1 (Ft g2 p2 u2)) (hg : Grew wr u2 v) (hB : B ≤ wr.heap.size) : Quad B w w1 N g1 p1 u1 l1 g2 p2 v nxt g3 p3 u3 l3 g4 p4 u4 l4 :=
  ⟨h.s1.keep hc fun i hi hf => h.d12 i hi hf, h1, h.s3.keep hc fun i hi hf => h.d23 i hf hi, h.s4.keep hc fun i hi hf => h.d24 i hf hi, (h.d12.symm.grew h.s1 hg).symm, h.d13, h.d14, h.d23.grew h.s3 hg, h.d24.grew h.s4 hg, h.d34, h.below.trans (hc.below hB fun _ hi => h.s2.low hi)⟩
theorem Quad.t3 (h : Quad B w wr N g1 p1 u1 l1 g2 p2 u2 l2 g3 p3 u3 l3 g4 p4 u4 l4) (h1 : Ss 68 21 .i32 w1 B g3 p3 v N nxt) (hc : Chg wr w1 (Ft g3 p3 u3)) (hg : Grew wr u3 v) (hB : B ≤ wr.heap.size) : Quad B w w1 N g1 p1 u1 l1 g2 p2 u2 l2 g3 p3 v nxt g4 p4 u4 l4 :=
  ⟨h.s1.keep hc fun i hi hf => h.d13 i hi hf, h.s2.keep hc fun i hi hf => h.d23 i hi hf, h1, h.s4.keep hc fun i hi hf => h.d34 i hf hi, h.d12, (h.d13.symm.grew h.s1 hg).symm, h.d14, (h.d23.symm.grew h.s2 hg).symm, h.d24, h.d34.grew h.s4 hg, h.below.trans (hc.below hB fun _ hi => h.s3.low hi)⟩
theorem Quad.t4 (h : Quad B w wr N g1 p1 u1 l1 g2 p2 u2 l2 g3 p3 u3 l3 g4 p4 u4 l4) (h1 : Ss 70 3 .i64 w1 B g4 p4 v N nxt) (hc : Chg wr w1 (Ft g4 p4 u4)) (hg : Grew wr u4 v) (hB : B ≤ wr.heap.size) : Quad B w w1 N g1 p1 u1 l1 g2 p2 u2 l2 g3 p3 u3 l3 g4 p4 v nxt :=
  ⟨h.s1.keep hc fun i hi hf => h.d14 i hi hf, h.s2.keep hc fun i hi hf => h.d24 i hi hf, h.s3.keep hc fun i hi hf => h.d34 i hi hf, h1, h.d12, h.d13, (h.d14.symm.grew h.s1 hg).symm, h.d23, (h.d24.symm.grew h.s2 hg).symm, (h.d34.symm.grew h.s3 hg).symm, h.below.trans (hc.below hB fun _ hi => h.s4.low hi)⟩
end
set_option maxHeartbeats 16000000 in
theorem walk (z : Int) (A : Option Addr) (l : List Int) (m c : Nat) (w : World) (h1 : 0 ≤ z) (h2 : z ≤ 255) (hr : Rd w w.heap.size A (ks .u8 l)) (hm : l.length = m)
    (hx : ∀ x ∈ l, 0 ≤ x ∧ x ≤ 255) (hsm : m ≤ 140737488351232) :
    Calls Try.prog 4 #[.int .u8 z, .slice A m c] w (Law w) := by
  have HF := Lib.hid (fixed_any w)
  have HM := Lib.hid hm; have HX := Lib.hid hx; have HR := Lib.hid hr
  have ez : IntKind.i64.wrap z = z := IntWalk.i64_in _ (by omega)
  clear hm hx hr
  go_enter Try.func4, Try.ntmps4
  go_wp2_with fail
  refine HF.out.mono ?_
  rintro e w1 ⟨rfl, hb1⟩
  have HB1 := Lib.hid hb1
  clear hb1 HF
  go_wp2_with (first
    | (go_at_call 11; refine (new_uint8 z w1 (by omega) (by omega)).mono ?_; rintro e x1 ⟨g1, p1, rfl, k1, k2⟩; have KA1 := Lib.hid k1; have KB1 := Lib.hid k2; clear k1 k2)
    | (go_at_call 12; refine (new_uint16 z x1 (by omega) (by omega)).mono ?_; rintro e x2 ⟨g2, p2, rfl, k1, k2⟩; have KA2 := Lib.hid k1; have KB2 := Lib.hid k2; clear k1 k2)
    | (go_at_call 13; refine (new_int32 z x2 (by omega) (by omega)).mono ?_; rintro e x3 ⟨g3, p3, rfl, k1, k2⟩; have KA3 := Lib.hid k1; have KB3 := Lib.hid k2; clear k1 k2)
    | (go_at_call 14; refine (new_int z x3 (by omega) (by omega)).mono ?_; rintro e x4 ⟨g4, p4, rfl, k1, k2⟩; have KA4 := Lib.hid k1; have KB4 := Lib.hid k2; clear k1 k2))
  obtain ⟨B, hB⟩ : ∃ B, B = w1.heap.size := ⟨_, rfl⟩
  have HB := Lib.hid hB
  obtain ⟨N, hN⟩ : ∃ N, N = room z := ⟨_, rfl⟩
  have hNz : (N : Int) = z := by rw [hN]; exact room_mid (by omega) (by omega)
  have b12 := KB1.out.size; have b23 := KB2.out.size; have b34 := KB3.out.size
  have q2 := KA1.out.next KB2.out
  have q3 := q2.next KB3.out
  have q4 := q3.next KB4.out
  have r3 := (KA2.out.next KB3.out)
  have r4 := r3.next KB4.out
  have t4 := KA3.out.next KB4.out
  have hd : Quad w1.heap.size w1 x4 (room z) g1 p1 (.slice none 0 0) [] g2 p2 (.slice none 0 0) [] g3 p3 (.slice none 0 0) [] g4 p4 (.slice none 0 0) [] :=
    ⟨q4, r4.base b12, t4.base (Nat.le_trans b12 b23), KA4.out.base (Nat.le_trans b12 (Nat.le_trans b23 b34)), Dj.late KA1.out KA2.out (Nat.le_refl _), Dj.late q2 KA3.out (Nat.le_refl _), Dj.late q3 KA4.out (Nat.le_refl _),
      Dj.late KA2.out KA3.out (Nat.le_refl _), Dj.late r3 KA4.out (Nat.le_refl _), Dj.late KA3.out KA4.out (Nat.le_refl _),
      KB1.out.trans ((KB2.out.trans ((KB3.out.trans (KB4.out.mono b34)).mono b23)).mono b12)⟩
  rw [← hN, ← hB] at hd
  have HD := Lib.hid (show Quad B w1 x4 N g1 p1 (.slice none 0 0) (puts N (l.take 0)) g2 p2 (.slice none 0 0) (puts N (l.take 0)) g3 p3 (.slice none 0 0) (puts N (l.take 0)) g4 p4 (.slice none 0 0) (puts N (l.take 0)) from hd)
  have hNle : N ≤ 255 := by omega
  clear hd hB hN KA1 KA2 KA3 KA4 KB1 KB2 KB3 KB4 b12 b23 b34 q2 q3 q4 r3 r4 t4
  go_wp2_with fail
  go_loopw [36] (fun i wr => ∃ (k : Nat) (v1 v2 v3 v4 : Value), k ≤ m ∧ i = .int .i64 k ∧ Hid (Quad B w1 wr N g1 p1 v1 (puts N (l.take k)) g2 p2 v2 (puts N (l.take k)) g3 p3 v3 (puts N (l.take k)) g4 p4 v4 (puts N (l.take k)))) (fun i _ => m - (intOf i).toNat)
  case atStart => exact ⟨0, _, _, _, _, Nat.zero_le _, rfl, HD⟩
  case round =>
    obtain ⟨wo, hwo⟩ : ∃ wo : World, wo = wr := ⟨_, rfl⟩
    subst hwo
    obtain ⟨k, v1, v2, v3, v4, hk, rfl, HT⟩ := hrel
    clear HD
    have HW := Lib.hid (show B ≤ wo.heap.size by have := HT.out.below.size; rw [HB.out]; exact this)
    have hwr : Below w.heap.size w wo := HB1.out.trans (HT.out.below.mono (by rw [HB.out]; exact HB1.out.size))
    by_cases hlt : k < m
    · have hkl : k < l.length := by rw [HM.out]; exact hlt
      obtain ⟨b, o, rfl, _⟩ := rd_form HR.out (by omega)
      have d1 := rd_k (HR.out.below hwr) hkl
      have hxo := HX.out _ (List.getElem_mem hkl)
      have hts : l.take (k + 1) = l.take k ++ [l[k]] := List.take_succ_eq_append_getElem hkl
      obtain ⟨x, hq⟩ : ∃ x, x = l[k] := ⟨_, rfl⟩
      rw [← hq] at d1 hxo hts
      have HTS := Lib.hid (show puts N (l.take (k + 1)) = put N (puts N (l.take k)) x by rw [hts, puts_snoc])
      obtain ⟨D, hD⟩ : ∃ D, D = puts N (l.take k) := ⟨_, rfl⟩
      rw [← hD] at HTS HT
      have HXO := Lib.hid hxo
      obtain ⟨F, hF⟩ : ∃ F, F = fresh N D x := ⟨_, rfl⟩
      have HFF := Lib.hid hF.symm
      obtain ⟨M, hM⟩ : ∃ M, M = decide (x < z) := ⟨_, rfl⟩
      have HMM := Lib.hid (show decide (x ∈ put N D x) = M by rw [mem_put HT.out.s1.inn hxo.1, hNz, hM])
      have hMd : decide (x < z) = M := hM.symm
      have e1 : (F != F) = false := by simp
      have e2 : (M != M) = false := by simp
      have ew2 : IntKind.u16.wrap x = x := by rw [IntKind.wrap_u16]; omega
      have ew3 : IntKind.i32.wrap x = x := by rw [IntKind.wrap_i32]; omega
      have ew4 : IntKind.i64.wrap x = x := IntWalk.i64_in _ (by omega)
      have HA1 := Lib.hid (add_uint8 x B g1 p1 N v1 D wo HT.out.s1 (by omega) (by omega))
      clear hts hq hkl hwr hxo hD hF hM
      go_wp2_with (first
        | (go_at_call 15; refine HA1.out.mono ?_; rintro e4 y1 ⟨n1, he, k1, k2, k3⟩; rw [HFF.out] at he; subst he; have HQ1 := Lib.hid (HT.out.t1 k1 k2 k3 HW.out); have HW1 := Lib.hid (Nat.le_trans HW.out k2.size); have HA2 := Lib.hid (add_uint16 x B g2 p2 N v2 D y1 HQ1.out.s2 (by have := HXO.out; omega) (by have := HXO.out; omega)); clear k1 k2 k3)
        | (go_at_call 16; refine HA2.out.mono ?_; rintro e4 y2 ⟨n2, he, k1, k2, k3⟩; rw [HFF.out] at he; subst he; have HQ2 := Lib.hid (HQ1.out.t2 k1 k2 k3 HW1.out); have HW2 := Lib.hid (Nat.le_trans HW1.out k2.size); have HA3 := Lib.hid (add_int32 x B g3 p3 N v3 D y2 HQ2.out.s3 (by have := HXO.out; omega) (by have := HXO.out; omega)); clear k1 k2 k3)
        | (go_at_call 17; refine HA3.out.mono ?_; rintro e4 y3 ⟨n3, he, k1, k2, k3⟩; rw [HFF.out] at he; subst he; have HQ3 := Lib.hid (HQ2.out.t3 k1 k2 k3 HW2.out); have HW3 := Lib.hid (Nat.le_trans HW2.out k2.size); have HA4 := Lib.hid (add_int x B g4 p4 N v4 D y3 HQ3.out.s4 (by have := HXO.out; omega) (by have := HXO.out; omega)); clear k1 k2 k3)
        | (go_at_call 18; refine HA4.out.mono ?_; rintro e4 y4 ⟨n4, he, k1, k2, k3⟩; rw [HFF.out] at he; subst he; have HQ4 := Lib.hid (HQ3.out.t4 k1 k2 k3 HW3.out); have HW4 := Lib.hid (Nat.le_trans HW3.out k2.size); have HH1 := Lib.hid (has_uint8 x B g1 p1 N n1 _ y4 HQ4.out.s1 (by have := HXO.out; omega) (by have := HXO.out; omega)); have HH2 := Lib.hid (has_uint16 x B g2 p2 N n2 _ y4 HQ4.out.s2 (by have := HXO.out; omega) (by have := HXO.out; omega)); have HH3 := Lib.hid (has_int32 x B g3 p3 N n3 _ y4 HQ4.out.s3 (by have := HXO.out; omega) (by have := HXO.out; omega)); have HH4 := Lib.hid (has_int x B g4 p4 N n4 _ y4 HQ4.out.s4 (by have := HXO.out; omega) (by have := HXO.out; omega)); rw [HMM.out] at HH1 HH2 HH3 HH4; clear k1 k2 k3)
        | (go_at_call 19; refine HH1.out.mono ?_; rintro e6 y6 ⟨rfl, rfl⟩)
        | (go_at_call 20; refine HH2.out.mono ?_; rintro e6 y6 ⟨rfl, rfl⟩)
        | (go_at_call 21; refine HH3.out.mono ?_; rintro e6 y6 ⟨rfl, rfl⟩)
        | (go_at_call 22; refine HH4.out.mono ?_; rintro e6 y6 ⟨rfl, rfl⟩))
      go_roundw
      case rel => exact ⟨k + 1, n1, n2, n3, n4, by omega, by go_num, by rw [HTS.out]; exact HQ4⟩
      case measure => simp [intOf]; omega
    · obtain ⟨D, hD⟩ : ∃ D, D = puts N (l.take k) := ⟨_, rfl⟩
      rw [← hD] at HT
      obtain ⟨n, hn⟩ : ∃ n, n = D.length := ⟨_, rfl⟩
      have hfew : n ≤ 255 := by rw [hn]; exact Nat.le_trans HT.out.s1.few hNle
      have HNL := Lib.hid hn
      have HBE := Lib.hid hwr
      have HV1 := Lib.hid (values_uint8 B g1 p1 N v1 D wo HT.out.s1)
      clear hD hwr hn
      go_wp2_with (first
        | (go_at_call 23; refine HV1.out.mono ?_; rintro e4 y1 ⟨n1, rfl, k1, k2⟩; rw [← HNL.out] at k1; have HO1 := Lib.hid k1; have HBL1 := Lib.hid k2; obtain ⟨A2, ca2, rfl, _, _, _⟩ := own_form k1; have HQ1 := Lib.hid (HT.out.next k2 HW.out); have HW1 := Lib.hid (Nat.le_trans HW.out k2.size); have HV2 := Lib.hid (values_uint16 B g2 p2 N v2 D y1 HQ1.out.s2); clear k1 k2)
        | (go_at_call 24; refine HV2.out.mono ?_; rintro e4 y2 ⟨n2, rfl, k1, k2⟩; rw [← HNL.out] at k1; have HO2 := Lib.hid k1; have HBL2 := Lib.hid k2; obtain ⟨A3, ca3, rfl, _, _, _⟩ := own_form k1; have HQ2 := Lib.hid (HQ1.out.next k2 HW1.out); have HW2 := Lib.hid (Nat.le_trans HW1.out k2.size); have HV3 := Lib.hid (values_int32 B g3 p3 N v3 D y2 HQ2.out.s3); clear k1 k2)
        | (go_at_call 25; refine HV3.out.mono ?_; rintro e4 y3 ⟨n3, rfl, k1, k2⟩; rw [← HNL.out] at k1; have HO3 := Lib.hid k1; have HBL3 := Lib.hid k2; obtain ⟨A4, ca4, rfl, _, _, _⟩ := own_form k1; have HQ3 := Lib.hid (HQ2.out.next k2 HW2.out); have HW3 := Lib.hid (Nat.le_trans HW2.out k2.size); have HV4 := Lib.hid (values_int B g4 p4 N v4 D y3 HQ3.out.s4); clear k1 k2)
        | (go_at_call 26; refine HV4.out.mono ?_; rintro e4 y4 ⟨n4, rfl, k1, k2⟩; rw [← HNL.out] at k1; have HO4 := Lib.hid k1; have HBL4 := Lib.hid k2; obtain ⟨A5, ca5, rfl, _, _, _⟩ := own_form k1; have HQ4 := Lib.hid (HQ3.out.next k2 HW3.out); have HW4 := Lib.hid (Nat.le_trans HW3.out k2.size); have HLN := Lib.hid (len_uint8 B g1 p1 N v1 D y4 HQ4.out.s1); rw [← HNL.out] at HLN; clear k1 k2)
        | (go_at_call 27; refine HLN.out.mono ?_; rintro e6 y6 ⟨rfl, rfl⟩))
      have HR1 := Lib.hid (Rd.of_own (own_below (own_below (own_below HO1.out HBL2.out) HBL3.out) HBL4.out))
      have HR2 := Lib.hid (Rd.of_own (own_below (own_below HO2.out HBL3.out) HBL4.out))
      have HR3 := Lib.hid (Rd.of_own (own_below HO3.out HBL4.out))
      have HR4 := Lib.hid (Rd.of_own HO4.out)
      have HBZ := Lib.hid (HBE.out.trans ((HBL1.out.trans ((HBL2.out.trans ((HBL3.out.trans (HBL4.out.mono HBL3.out.size)).mono HBL2.out.size)).mono HBL1.out.size)).mono HBE.out.size))
      clear HO1 HO2 HO3 HO4 HBL1 HBL2 HBL3 HBL4 HQ1 HQ2 HQ3 HT HV1 HV2 HV3 HV4
      go_loopw [141] (fun i wi => ∃ k : Nat, k ≤ n ∧ i = .int .i64 k ∧ y4 = wi) (fun i _ => n - (intOf i).toNat)
      case atStart => exact ⟨0, Nat.zero_le _, rfl, rfl⟩
      case round =>
        obtain ⟨j, hj, rfl, rfl⟩ := hrel
        by_cases hjn : j < n
        · have hjc : j < D.length := by rw [← HNL.out]; exact hjn
          obtain ⟨b1, o1, rfl, _⟩ := rd_form HR1.out (by omega)
          have f1 := rd_k HR1.out hjc
          obtain ⟨b2, o2, rfl, _⟩ := rd_form HR2.out (by omega)
          have f2 := rd_k HR2.out hjc
          obtain ⟨b3, o3, rfl, _⟩ := rd_form HR3.out (by omega)
          have f3 := rd_k HR3.out hjc
          obtain ⟨b4, o4, rfl, _⟩ := rd_form HR4.out (by omega)
          have f4 := rd_k HR4.out hjc
          have HAT := Lib.hid (at_uint8 (j : Int) B g1 p1 N v1 D y4 HQ4.out.s1)
          rw [nth_at hjc] at HAT
          have hmem := HQ4.out.s1.inn _ (List.getElem_mem hjc)
          obtain ⟨y, hy⟩ : ∃ y, y = D[j] := ⟨_, rfl⟩
          rw [← hy] at f1 f2 f3 f4 HAT hmem
          have e1 : (y != y) = false := by simp
          have ew2 : IntKind.u16.wrap y = y := by rw [IntKind.wrap_u16]; omega
          have ew3 : IntKind.i32.wrap y = y := by rw [IntKind.wrap_i32]; omega
          have ew4 : IntKind.i64.wrap y = y := IntWalk.i64_in _ (by omega)
          clear hy hjc hmem
          go_wp2_with (go_at_call 28; refine HAT.out.mono ?_; rintro e6 w6 ⟨rfl, rfl⟩)
          go_roundw
          case rel => exact ⟨j + 1, by omega, by go_num, trivial⟩
          case measure => simp [intOf]; omega
        · have HH := Lib.hid (has_int32 (-1) B g3 p3 N v3 D y4 HQ4.out.s3 (by omega) (by omega))
          rw [show decide ((-1 : Int) ∈ D) = false from decide_eq_false fun hm => by have := HQ4.out.s3.inn _ hm; omega] at HH
          have HF1 := Lib.hid (show fresh N D (-1) = false from fresh_out (by omega))
          have HA3 := Lib.hid (add_int32 (-1) B g3 p3 N v3 D y4 HQ4.out.s3 (by omega) (by omega))
          go_wp2_with (first
            | (go_at_call 21; refine HH.out.mono ?_; rintro e6 y6 ⟨rfl, rfl⟩)
            | (go_at_call 17; refine HA3.out.mono ?_; rintro e5 y5 ⟨n5, he, k1, k2, k3⟩; rw [HF1.out] at he; subst he; have HQ5 := Lib.hid (HQ4.out.t3 k1 k2 k3 HW4.out); have HW5 := Lib.hid (Nat.le_trans HW4.out k2.size); have HB5 := Lib.hid (HBZ.out.trans ((k2.below HW4.out fun _ hi => HQ4.out.s3.low hi).mono (by rw [HB.out]; exact HB1.out.size))); have HA4 := Lib.hid (add_int (-1) B g4 p4 N v4 D y5 HQ5.out.s4 (by omega) (by omega)); clear k1 k2 k3)
            | (go_at_call 18; refine HA4.out.mono ?_; rintro e7 y7 ⟨n7, he, k1, k2, k3⟩; rw [HF1.out] at he; subst he; have HB7 := Lib.hid (HB5.out.trans ((k2.below HW5.out fun _ hi => HQ5.out.s4.low hi).mono (by rw [HB.out]; exact HB1.out.size))); clear k1 k2 k3))
          go_ret
          exact ⟨rfl, HB7.out⟩

theorem contract (H : Type) (enc : TypeId × Value → H) (W : World) (base : Nat) (args : Array Value) (ds gs : List (DataW H)) (before : List MemPlace)
    (hval : ∀ (j : Nat) t v, Try.f4.params[j]? = some t → args[j]? = some v → Value.okWide Try.prog W .any base t v)
    (hW : DataW.Whole enc Try.prog Try.f4.params.toList Rows.sparseKindsSpec.vars false W args.toList ds gs before) (hsz0 : (DataW.weightsEach Try.prog (Try.f4.params.toList ++ Rows.sparseKindsSpec.plain.varTypes Try.prog) (ds ++ gs)).all (· ≤ reachBytes) = true) :
    Calls Try.prog 4 args W fun e W' => ∃ v, e = .returned v ∧ Rows.sparseKindsSpec.post enc Try.prog Try.f4 false true false false W args v W' := by
  have hW' := hW
  obtain ⟨p, q, hA0, hV, rfl, hfz, hnd⟩ := hW
  have hA : DataW.TrodAll enc Try.prog W 0 (fun _ => true) true Try.f4.params.toList args.toList ds p := hA0
  have hsz := hsz0
  rw [Try.params4] at hA hval hsz
  obtain ⟨v0, vs0, d0, ds0, p0, q0, hargs, rfl, rfl, h0, r0⟩ := trodAll_cons hA
  obtain ⟨v1, vs1, d1, ds1, p1, q1, rfl, rfl, rfl, h1, r1⟩ := trodAll_cons r0
  obtain ⟨rfl, rfl, rfl⟩ := trodAll_nil r1
  obtain rfl : args = #[v0, v1] := by cases args; simp_all
  obtain ⟨rfl, rfl⟩ := trodVars_none hV
  obtain ⟨z0, rfl, rfl, rfl, w00⟩ := open_int Try.underlying5 (hval 0 5 v0 rfl rfl) h0
  have w0 := u8_bounds w00
  obtain ⟨a1, len1, cap1, rfl⟩ := okWide_slice Try.underlying33 (hval 1 33 v1 rfl rfl)
  have k1 := h1
  have lt1 : ∀ x ∈ p1, x.block < W.heap.size := by obtain ⟨m, hm⟩ := k1; exact DataW.trod_lt m _ _ _ hm
  obtain ⟨l1, hl1, hc1, hm1, hw1, hr1, hb1, hd1⟩ := open_ks (k := .u8) Try.underlying33 Try.underlying5 (by kernel_rfl) h1
  have reach1 := reach_of (by_ := 1) hsz (j := 1) (t := 33) rfl rfl Try.underlying33 (by kernel_rfl) hd1
  clear hA0
  refine (walk z0 a1 l1 len1 cap1 W w0.1 w0.2 hr1 hl1 (fun x hx => u8_bounds (hw1 x hx)) (by omega)).mono fun e W' ⟨he, bel⟩ => ?_
  subst he
  exact ⟨_, rfl, _, _, _, [], _, [], hW', trodAll_mk1 (shut_bool Try.underlying4 _), (trodAll_cons_mk (shut_int Try.underlying5 w00) (trodAll_cons_mk (Below.trod laidOut (by kernel_rfl) (of_decide_eq_true (by kernel_rfl)) k1 bel lt1) trodAll_mk0)), rfl, bel.frame _, fun h => by cases h⟩

set_option maxRecDepth 100000 in
theorem lifted (os : Os) (started : os.Started) (H : Type) (enc : TypeId × Value → H) :
    ReturnsInHanded {} Try.checked os 4 .any (Rows.sparseKindsSpec.pre6 enc Try.prog Try.f4 Rows.sparseKindsRow.domain false) (Rows.sparseKindsSpec.post enc Try.prog Try.f4 false true false false) := by
  refine returnsInHanded_of_change_sized (C := Try.checked) own started (by kernel_rfl) Try.func4
    (ChangeSpec.witness6 (enc := enc) (C := Try.checked) false ⟨#[], #[.int .u8 0, .slice none 0 0], []⟩ 8 (by kernel_rfl) (by kernel_rfl) (by kernel_rfl) (by kernel_rfl)) ?_
  intro W base args ds gs before hval hW _ hsz _
  exact contract H enc W base args ds gs before hval hW hsz

/-- THE STATEMENT -/
theorem proved : Rows.SparseKindsSaid :=
  OpenClaim.holds_of_wide 4 Try.f4 rfl rfl rfl rfl rfl rfl rfl ⟨rfl, rfl, rfl, rfl, rfl⟩ rfl rfl rfl rfl rfl (by kernel_rfl) Try.func4 (by kernel_rfl)
    (of_decide_eq_true (by kernel_rfl)) (by unfold Func.isWrapper; first | (rw [if_pos (by decide +kernel)]; kernel_rfl) | (rw [if_neg (by decide +kernel)]; exact ⟨rfl, rfl⟩))
    (fun os started H enc _ => lifted os started H enc)
end Go.Proofs.Ytckdjbonplpknaa.LawSparseKinds
