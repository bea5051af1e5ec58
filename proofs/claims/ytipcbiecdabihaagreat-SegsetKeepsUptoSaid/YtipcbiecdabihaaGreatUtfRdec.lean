/-
  CONTRACTS OF THE DOCUMENT's Decode AND OF Same.
-/
import Derived.Test.YtipcbiecdabihaaGreatUtfAt
namespace Go.Proofs.YtipcbiecdabihaaGreat.Utf
open Go.RowKit
set_option maxRecDepth 100000

def Pts (w : World) (ps : List Pt) (e : Ending) (w' : World) : Prop :=
  ∃ v, e = .returned v ∧ w'.ownsRow w.heap.size 58 3 v ps.length (pts ps) ∧ Below w.heap.size w w'
theorem pts_of {w w' : World} {v : Value} {H : Nat} {ps qs : List Pt} (hH : H = w.heap.size) (h1 : ps = qs) (hown : w'.ownsRow H 58 3 v ps.length (pts ps)) (hb : Below H w w') : Pts w qs (.returned v) w' := by
  subst hH h1
  exact ⟨v, rfl, hown, hb⟩
theorem own_below {w w' : World} {base : Nat} {e : TypeId} {size : Nat} {v : Value} {n : Nat} {xs : List Value} (h : w.ownsRow base e size v n xs) (hb : Below w.heap.size w w') : w'.ownsRow base e size v n xs :=
  h.kept (row := none) ⟨hb.os, hb.tape, hb.output, hb.size, fun k hk _ => hb.block k hk⟩ (by cases v.ownBlock <;> simp)

set_option maxHeartbeats 2000000 in
theorem rdec_any (A : Option Addr) (l : List UInt8) (n c : Nat) (opn : Bool) (w : World) (hr : Rd w w.heap.size A (bys l)) (hn : l.length = n) (hb : n ≤ 1099511627776) :
    Calls Tryz.prog 48 #[.slice A n c, .bool opn] w (Pts w (dec opn 0 l)) := by
  obtain ⟨i0, hi, hz0, hz1, hz2⟩ := info_parts infoPt
  have HN := Lib.hid hn
  clear hn
  obtain ⟨H, hH⟩ : ∃ H, H = w.heap.size := ⟨_, rfl⟩
  rw [← hH] at hr
  have HH := Lib.hid hH
  clear hH
  go_enter Tryz.func48, Tryz.ntmps48
  go_wp2
  go_loopw [5, 6] (fun v i wr => ∃ (k : Nat) (ps : List Pt), k ≤ n ∧ i = .int .i64 k ∧ wr.ownsRow H 58 3 v ps.length (pts ps) ∧ Hid (ps ++ dec opn k (l.drop k) = dec opn 0 l) ∧ ps.length ≤ k ∧ Below H w wr)
    (fun _ i _ => n - (intOf i).toNat)
  case atStart => exact ⟨0, [], Nat.zero_le _, rfl, World.ownsRow_nil _ _ _ _, Lib.hid (by simp), Nat.le_refl _, Below.refl _ _⟩
  case round =>
    obtain ⟨k, ps, hk, rfl, hown, HD, hpk, hbel⟩ := hrel
    have hsz : H ≤ wr.heap.size := by have := hbel.size; rw [HH.out]; exact this
    by_cases hlt : k < n
    · have hat := at_any A l n c k wr ((hr.below hbel).more hsz) HN.out hlt hb
      have hdl : (l.drop k).length = n - k := by rw [rest_len, HN.out]
      have hdne : l.drop k ≠ [] := by intro e; rw [e] at hdl; simp at hdl; omega
      have hw1 := wid_pos hdne
      have hw2 := wid_le (l.drop k)
      have hru := rune_lt (l.drop k)
      have hw4 := wid_four (l.drop k)
      have hst : (opn && more (l.drop k)) = true → ps = dec opn 0 l := fun h => by rw [← HD.out, dec_cons opn k hdne, if_pos h, List.append_nil]
      have hgo : (opn && more (l.drop k)) = false → ps ++ [⟨rune (l.drop k), k, wid (l.drop k)⟩] ++ dec opn (k + wid (l.drop k)) (l.drop (k + wid (l.drop k))) = dec opn 0 l := fun h => by
        rw [← HD.out, dec_step opn k hdne h, List.drop_drop, List.append_assoc]; rfl
      rw [hdl] at hw2
      unfold Piece at hat
      obtain ⟨R, hR⟩ : ∃ R, R = rune (l.drop k) := ⟨_, rfl⟩
      obtain ⟨W, hW⟩ : ∃ W, W = wid (l.drop k) := ⟨_, rfl⟩
      obtain ⟨mo, hmo⟩ : ∃ mo, mo = more (l.drop k) := ⟨_, rfl⟩
      rw [← hR] at hat hgo hru
      rw [← hW] at hat hgo hw1 hw2 hw4
      rw [← hmo] at hat hgo hst
      have HAT := Lib.hid hat; have HST := Lib.hid hst; have HGO := Lib.hid hgo
      clear hR hW hmo hat hst hgo hdne hdl HD
      have hpt : pts (ps ++ [⟨R, k, W⟩]) = pts ps ++ [.int .i32 R, .int .i64 k, .int .i64 W] := by rw [pts_append]; rfl
      have HP := Lib.hid hpt
      clear hpt
      cases hom : (opn && mo) with
      | true =>
        rw [Bool.and_eq_true] at hom
        obtain ⟨rfl, rfl⟩ := hom
        go_wp2_with (first
          | (go_at_call 69; refine HAT.out.mono ?_; rintro e w1 ⟨rfl, hb1⟩; have hown1 := own_below hown hb1; have hsz1 := hb1.size))
        go_ret
        exact pts_of HH.out (HST.out rfl) hown1 (hbel.trans (hb1.mono hsz))
      | false =>
        have HF := Lib.hid hom
        have hcase : opn = false ∨ (opn = true ∧ mo = false) := by cases opn <;> simp_all
        clear hom
        rcases hcase with rfl | ⟨rfl, rfl⟩
        all_goals
          go_wp2_with (first
            | (go_at_call 69; refine HAT.out.mono ?_; rintro e w1 ⟨rfl, hb1⟩; have hown1 := own_below hown hb1; have hsz1 := hb1.size)
            | (at_builtin; refine wpList_append_rd _ rfl (.tmp 26) (.tmp 31) _ rfl H 58 i0 _ 3 24 Tryz.underlying55 hi hz0 hz1 hz2 rfl (by decide) _ _ _ rfl (hown1.alloc _) _ (some ⟨w1.heap.size, 0, none⟩) 1 1 [.int .i32 R, .int .i64 k, .int .i64 W] rfl rfl (rd_new _ _ [.int .i32 R, .int .i64 k, .int .i64 W] _ (by simp)) one3 (by unfold maxLen; omega) (by omega) (by simp; omega) ?_; intro v2 w2 hown2 hgr2 hat2))
          go_roundw
          case rel => exact ⟨k + W, ps ++ [⟨R, k, W⟩], by omega, by go_num, by rw [HP.out, List.length_append]; exact hown2, Lib.hid (HGO.out HF.out), by simp; omega, ((hbel.trans (hb1.mono hsz)).alloc (by omega) _).grown hgr2 (by simp; omega) (fun g hg => (hown1.lt g hg).1)⟩
          case measure => simp [intOf]; omega
    · have hnil : l.drop k = [] := List.drop_eq_nil_of_le (by have := HN.out; omega)
      have F1 := Lib.hid (show ps = dec opn 0 l by rw [← HD.out, hnil, dec_nil, List.append_nil])
      clear HD hnil
      go_wp2
      go_ret
      exact pts_of HH.out F1.out hown hbel
end Go.Proofs.YtipcbiecdabihaaGreat.Utf
