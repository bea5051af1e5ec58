/-
  CONTRACT OF Play: whatever the calls, their answers in order, and what is there at the end.
-/
import Derived.Test.YtckdjbonplpknaaSparsePlay
namespace Go.Proofs.Ytckdjbonplpknaa.Sparse
open Go.RowKit Mem
set_option maxRecDepth 100000

/-- what Play leaves -/
def Played (w : World) (size : Int) (ops : List (Int × Int)) (e : Ending) (w' : World) : Prop :=
  ∃ v u, e = .returned (.tuple #[v, u]) ∧ w'.ownsRow w.heap.size 3 1 v ops.length (ks .i64 (outs (room size) ops [])) ∧
    w'.ownsRow w.heap.size 3 1 u (fin (room size) ops []).length (ks .i64 (fin (room size) ops [])) ∧ Below w.heap.size w w'
/-- in the middle of a script: the answers so far, and the set -/
structure Mid (H : Nat) (w wr : World) (g p N : Nat) (a u : Value) (done : List (Int × Int)) : Prop where
  told : wr.ownsRow H 3 1 a done.length (ks .i64 (outs N done []))
  set : SI wr H g p u N (fin N done [])
  apart : ∀ i, a.ownBlock = some i → ¬ Ft g p u i
  below : Below H w wr
theorem Mid.next {H : Nat} {w wr w' : World} {g p N : Nat} {a u : Value} {d : List (Int × Int)} (h : Mid H w wr g p N a u d) (hb : Below wr.heap.size wr w') (hH : H ≤ wr.heap.size) : Mid H w w' g p N a u d :=
  ⟨own_below h.told hb, h.set.next hb, h.apart, h.below.trans (hb.mono hH)⟩
/-- behind a call: the set has turned -/
theorem Mid.did {H : Nat} {w wr w1 : World} {g p N : Nat} {a u u' : Value} {d : List (Int × Int)} {o : Int × Int} (h : Mid H w wr g p N a u d) (h1 : SI w1 H g p u' N (step N (fin N d []) o.1 o.2).2) (hc : Chg wr w1 (Ft g p u)) (hg : Grew wr u u') (hH : H ≤ wr.heap.size) :
    w1.ownsRow H 3 1 a d.length (ks .i64 (outs N d [])) ∧ SI w1 H g p u' N (fin N (d ++ [o]) []) ∧ (∀ i, a.ownBlock = some i → ¬ Ft g p u' i) ∧ Below H w w1 :=
  ⟨own_keep h.told hc fun i hi => h.apart i hi, by rw [fin_snoc]; exact h1, fun i hi hf => h.apart i hi (ft_grew hg (h.told.lt i hi).2 hf), h.below.trans (hc.below hH fun i hi => h.set.low hi)⟩
/-- behind the append of its answer -/
theorem Mid.more {H : Nat} {w w1 w2 w3 : World} {g p N n : Nat} {a a' u : Value} {d : List (Int × Int)} {o : Int × Int} {z : Int} (h1 : w1.ownsRow H 3 1 a d.length (ks .i64 (outs N d [])))
    (h2 : SI w1 H g p u N (fin N (d ++ [o]) [])) (h3 : ∀ i, a.ownBlock = some i → ¬ Ft g p u i) (h4 : Below H w w1) (hb : Below w1.heap.size w1 w2) (hH : H ≤ w1.heap.size)
    (hz : (step N (fin N d []) o.1 o.2).1 = z) (hn : n = d.length) (ho : w3.ownsRow H 3 1 a' (n + 1) (ks .i64 (outs N d []) ++ [.int .i64 z])) (hg : w2.grownBy w3 a.ownBlock) (ha : a'.ownBlock = a.ownBlock ∨ a'.ownBlock = some w2.heap.size) : Mid H w w3 g p N a' u (d ++ [o]) := by
  subst hn
  have hc : Chg w1 w3 (fun i => a.ownBlock = some i) := (Chg.of_below hb (Nat.le_refl _)).grown hg fun i _ e => e
  refine ⟨?_, h2.keep hc fun i hf e => h3 i e hf, fun i hi hf => ?_, h4.trans (hc.below hH fun i hi e => ?_)⟩
  · rw [List.length_append, outs_snoc, ks_append, hz]; exact ho
  · rcases ha with ha | ha
    · rw [ha] at hi; exact h3 i hi hf
    · rw [ha] at hi
      injection hi with hi
      have := (h2.hers hf).2
      have := hb.size
      omega
  · have := (h1.lt i e).1
    omega
set_option maxHeartbeats 4000000 in
theorem run_any (size : Int) (A : Option Addr) (ops : List (Int × Int)) (m c : Nat) (w : World) (h1 : -9223372036854775808 ≤ size) (h2 : size ≤ 9223372036854775807) (hr : Rd w w.heap.size A (opv ops)) (hm : ops.length = m)
    (hx : ∀ o ∈ ops, -9223372036854775808 ≤ o.2 ∧ o.2 ≤ 9223372036854775807) (hsm : m ≤ 17592186044416) :
    Calls Try.prog 8 #[.int .i64 size, .slice A m c] w (Played w size ops) := by
  obtain ⟨i0, hi, hz0, hz1, hz2⟩ := info_parts infoInt
  obtain ⟨H, hH⟩ : ∃ H, H = w.heap.size := ⟨_, rfl⟩
  have HH := Lib.hid hH
  have HNEW := Lib.hid (new_int size w h1 h2)
  have HM := Lib.hid hm; have HX := Lib.hid hx; have HR := Lib.hid hr
  clear hm hx hr hH
  go_enter Try.func8, Try.ntmps8
  go_wp2_with fail
  refine HNEW.out.mono ?_
  rintro e w1 ⟨g, p, rfl, hs, hb⟩
  rw [← HH.out] at hs hb
  obtain ⟨N, hN⟩ : ∃ N, N = room size := ⟨_, rfl⟩
  rw [← hN] at hs
  have HN := Lib.hid hN
  have HMID := Lib.hid (show Mid H w w1 g p N (.slice none 0 0) (.slice none 0 0) [] from ⟨World.ownsRow_nil _ _ _ _, hs, fun i hi => by simp [Value.ownBlock] at hi, hb⟩)
  clear hs hb hN HNEW
  go_wp2_with fail
  go_loopw [7, 14] (fun av i wr => ∃ (k : Nat) (u : Value), k ≤ m ∧ i = .int .i64 k ∧ Hid (Mid H w wr g p N av u (ops.take k))) (fun _ i _ => m - (intOf i).toNat)
  case atStart => exact ⟨0, _, Nat.zero_le _, rfl, HMID⟩
  case round =>
    obtain ⟨k, u, hk, rfl, HM1⟩ := hrel
    clear HMID
    by_cases hlt : k < m
    · have hkl : k < ops.length := by rw [HM.out]; exact hlt
      have hHw : H ≤ wr.heap.size := by have := HM1.out.below.size; rw [HH.out]; exact this
      obtain ⟨b, o, rfl, _⟩ := rd_form_op HR.out (by omega)
      have hrd : Rd wr H (some ⟨b, o, none⟩) (opv ops) := by have := HR.out; rw [← HH.out] at this; exact this.below HM1.out.below
      obtain ⟨c1, c2⟩ := rd_op hrd hkl
      have hxo := HX.out _ (List.getElem_mem hkl)
      have hts : ops.take (k + 1) = ops.take k ++ [ops[k]] := List.take_succ_eq_append_getElem hkl
      obtain ⟨q, hq⟩ : ∃ q, q = ops[k] := ⟨_, rfl⟩
      rw [← hq] at c1 c2 hxo hts
      obtain ⟨d, hd⟩ : ∃ d, d = ops.take k := ⟨_, rfl⟩
      have hdl : k = d.length := by rw [hd, List.length_take]; omega
      rw [← hd] at hts HM1
      obtain ⟨kd, x⟩ := q
      have HTS := Lib.hid hts
      have HDL := Lib.hid hdl
      have HHW := Lib.hid hHw
      have HP := Lib.hid (play_any kd x H g p N u (fin N d []) (wr.alloc (.cells #[.int .i64 kd, .int .i64 x] 28)) (HM1.out.set.next ((Below.refl _ _).alloc (Nat.le_refl _) _)) hxo.1 hxo.2)
      clear hts hdl hd hq hrd hxo hkl hHw
      go_wp2_with (first
        | (go_at_call 32; refine HP.out.mono ?_; rintro e2 w2 ⟨u2, rfl, k1, k2, k3⟩
           obtain ⟨j1, j2, j3, j4⟩ := (HM1.out.next ((Below.refl _ _).alloc (Nat.le_refl _) _) HHW.out).did (o := (kd, x)) k1 k2 k3 (by have := HHW.out; simp; omega)
           have J1 := Lib.hid j1; have J2 := Lib.hid j2; have J3 := Lib.hid j3; have J4 := Lib.hid j4
           have J5 := Lib.hid (show H ≤ w2.heap.size by have := k2.size; simp at this; have := HHW.out; omega)
           obtain ⟨z, hz⟩ : ∃ z, z = (step N (fin N d []) kd x).1 := ⟨_, rfl⟩
           rw [← hz]
           have HZ := Lib.hid hz
           clear k1 k2 k3 j1 j2 j3 j4 hz)
        | (at_builtin; refine wpList_append_rd _ rfl (.tmp 18) (.tmp 22) _ rfl H 3 i0 _ 1 8 Try.underlying24 hi hz0 hz1 hz2 rfl (by decide) u7 k (ks .i64 (outs N d [])) rfl (own_below (by rw [HDL.out]; exact J1.out) ((Below.refl _ _).alloc (Nat.le_refl _) _)) _ (some ⟨w2.heap.size, 0, none⟩) 1 1 [.int .i64 z] rfl rfl (rd_new _ _ [.int .i64 z] _ rfl) (ks_one .i64 [z]) (by unfold maxLen; omega) (by omega) (by have := J5.out; simp; omega) ?_
           intro v6 w6 hown6 hgr6 hat6
           have HM6 := Lib.hid (Mid.more J1.out J2.out J3.out J4.out ((Below.refl _ _).alloc (Nat.le_refl _) _) J5.out HZ.out.symm HDL.out hown6 hgr6 hat6)
           clear hown6 hgr6 hat6))
      go_roundw
      case rel => exact ⟨k + 1, u2, by omega, by go_num, by rw [HTS.out]; exact HM6⟩
      case measure => simp [intOf]; omega
    · have hke : k = m := by omega
      subst hke
      have htk : ops.take k = ops := List.take_of_length_le (by rw [HM.out]; exact Nat.le_refl _)
      rw [htk] at HM1
      have HV := Lib.hid (values_int H g p N u (fin N ops []) wr HM1.out.set)
      clear htk hk
      go_wp2_with (first
        | (go_at_call 26; refine HV.out.mono ?_; rintro e2 w2 ⟨u2, rfl, k1, k2⟩
           have K1 := Lib.hid k1; have K2 := Lib.hid k2
           clear k1 k2))
      go_ret2
      have hHw : H ≤ wr.heap.size := by have := HM1.out.below.size; rw [HH.out]; exact this
      refine ⟨u7, u2, rfl, ?_, ?_, ?_⟩
      · rw [← HH.out, ← HN.out]
        exact own_below HM1.out.told K2.out
      · rw [← HH.out, ← HN.out]
        exact own_mono K1.out hHw
      · rw [← HH.out]
        exact HM1.out.below.trans (K2.out.mono hHw)
end Go.Proofs.Ytckdjbonplpknaa.Sparse
