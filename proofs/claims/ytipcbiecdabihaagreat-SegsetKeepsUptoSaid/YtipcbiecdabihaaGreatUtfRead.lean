/-
  CONTRACT OF THE READING: the points that are sure, and how many bytes they have.
-/
import Derived.Test.YtipcbiecdabihaaGreatUtfMeas
import Derived.Test.YtipcbiecdabihaaGreatUtfJoin
namespace Go.Proofs.YtipcbiecdabihaaGreat.Utf
open Go.RowKit
set_option maxRecDepth 100000

theorem infoPt : (Tryz.prog.info? 58).map (fun i => (i.zero, i.size, i.bytes)) = some (some (.agg #[.int .i32 0, .int .i64 0, .int .i64 0]), 3, 24) := by kernel_rfl
theorem infoU8 : (Tryz.prog.info? 5).map (fun i => (i.zero, i.size, i.bytes)) = some (some (.int .u8 0), 1, 1) := by kernel_rfl
theorem infoI32 : (Tryz.prog.info? 21).map (fun i => (i.zero, i.size, i.bytes)) = some (some (.int .i32 0), 1, 4) := by kernel_rfl

def Sure (w : World) (k : Nat) (l : List UInt8) (e : Ending) (w' : World) : Prop :=
  ∃ v, e = .returned (.tuple #[v, .int .i64 (eat l)]) ∧ w'.ownsRow w.heap.size 58 3 v (dec true k l).length (pts (dec true k l)) ∧ Below w.heap.size w w'

theorem rest_len {l : List UInt8} {k : Nat} : (l.drop k).length = l.length - k := List.length_drop
theorem more_iff (l : List UInt8) : more l = true ↔ wid l < nd l ∧ wid l = l.length := by unfold more; simp

theorem sure_of {w w' : World} {v : Value} {q k H : Nat} {l : List UInt8} {ps : List Pt} (hH : H = w.heap.size) (h1 : ps = dec true q l) (h2 : k = eat l) (hown : w'.ownsRow H 58 3 v ps.length (pts ps)) (hb : Below H w w') :
    Sure w q l (.returned (.tuple #[v, .int .i64 k])) w' := by
  subst hH h1 h2
  exact ⟨v, rfl, hown, hb⟩

theorem rd_new (u : World) (t : TypeId) (cs : List Value) (g : Nat) (hg : u.heap.size = g) : Rd (u.alloc (.cells cs.toArray t)) (g + 1) (some ⟨g, 0, none⟩) cs := fun _ =>
  ⟨g, 0, rfl, by omega, fun j x hx => by subst hg; rw [(Blk.new u t cs).cell, Nat.zero_add]; exact hx⟩
theorem one3 {a b c : Int} {k1 k2 k3 : IntKind} : ∀ u ∈ [Value.int k1 a, .int k2 b, .int k3 c], u.oneCell' = true := by
  intro u hu
  simp only [List.mem_cons, List.not_mem_nil, or_false] at hu
  obtain rfl | rfl | rfl := hu <;> rfl

set_option maxHeartbeats 2000000 in
theorem read_any (A : Option Addr) (l : List UInt8) (c q : Nat) (w : World) (hr : Rd w w.heap.size A (bys l)) (hc : l.length ≤ c) (hcm : c ≤ 9223372036854775807) (hb : l.length ≤ 1099511627776) (hq : q ≤ 1099511627776) :
    Calls Tryz.prog 98 #[.slice A l.length c, .int .i64 q] w (Sure w q l) := by
  obtain ⟨i0, hi, hz0, hz1, hz2⟩ := info_parts infoPt
  obtain ⟨n, hn⟩ : ∃ n, n = l.length := ⟨_, rfl⟩
  have HN := Lib.hid hn
  rw [← hn] at hc hb ⊢
  clear hn
  obtain ⟨H, hH⟩ : ∃ H, H = w.heap.size := ⟨_, rfl⟩
  rw [← hH] at hr
  have HH := Lib.hid hH
  clear hH
  go_enter Tryz.func98, Tryz.ntmps98
  go_wp2
  go_loopw [4, 5] (fun v i wr => ∃ (k : Nat) (ps : List Pt), k ≤ n ∧ i = .int .i64 k ∧ wr.ownsRow H 58 3 v ps.length (pts ps) ∧ Hid (ps ++ dec true (q + k) (l.drop k) = dec true q l) ∧ Hid (k + eat (l.drop k) = eat l) ∧ ps.length ≤ k ∧ Below H w wr)
    (fun _ i _ => n - (intOf i).toNat)
  case atStart => exact ⟨0, [], Nat.zero_le _, rfl, World.ownsRow_nil _ _ _ _, Lib.hid (by simp), Lib.hid (by simp), Nat.le_refl _, Below.refl _ _⟩
  case round =>
    obtain ⟨k, ps, hk, rfl, hown, HD, HE, hpk, hbel⟩ := hrel
    by_cases hlt : k < n
    · have hlen := HN.out
      obtain ⟨b, o, rfl, hbH⟩ := hr.form (by rw [bys_len]; omega)
      have hrk : Rd w H (some ⟨b, o + k, none⟩) (bys (l.drop k)) := by have := hr.drop_ k; rwa [bys_drop] at this
      have hrw := hrk.below hbel
      have hkc : k < c := by omega
      have hdl : (l.drop k).length = n - k := by rw [rest_len, hlen]
      have hdne : l.drop k ≠ [] := by intro e; rw [e] at hdl; simp at hdl; omega
      have hm0 := measure_at (some ⟨b, o + k, none⟩) (l.drop k) (n - k) (c - k) H wr hdl hrw (by omega) (by omega)
      have hw1 := wid_pos hdne
      have hw2 := wid_le (l.drop k)
      have hw4 := wid_four (l.drop k)
      rw [hdl] at hw2
      have hmi := more_iff (l.drop k)
      rw [hdl] at hmi
      obtain ⟨W, hW⟩ : ∃ W, W = wid (l.drop k) := ⟨_, rfl⟩
      obtain ⟨N, hN⟩ : ∃ N, N = nd (l.drop k) := ⟨_, rfl⟩
      rw [← hW] at hw1 hw2 hw4
      rw [← hW, ← hN] at hm0 hmi
      have hm := Lib.hid hm0
      have HW := Lib.hid hW
      have HNd := Lib.hid hN
      have HMI := Lib.hid hmi
      have HDN := Lib.hid hdne
      have HDL := Lib.hid hdl
      clear hm0 hW hN hmi hdne hdl hlen hr hrk
      by_cases hmore : W < N ∧ W = n - k
      · obtain ⟨hm1, hm2⟩ := hmore
        have hm3 : (W : Int) = ((n - k : Nat) : Int) := by omega
        have hm4 : ((W : Int) == (n : Int) - (k : Int)) = true := by simp; omega
        have hmt : more (l.drop k) = true := HMI.out.2 ⟨hm1, hm2⟩
        have F1 := Lib.hid (show ps = dec true q l by rw [← HD.out, dec_stop HDN.out hmt, List.append_nil])
        have F2 := Lib.hid (show k = eat l by rw [← HE.out, eat_stop HDN.out hmt]; rfl)
        clear hm2 hmt HD HE
        go_wp2_with (first
          | (go_at_call 114; refine hm.out.mono ?_; rintro e w' ⟨rfl, rfl⟩))
        go_ret2
        exact sure_of HH.out F1.out F2.out hown hbel
      · by_cases heq : W = N
        · have hmf : more (l.drop k) = false := by
            cases h : more (l.drop k) with
            | false => rfl
            | true => exact absurd (HMI.out.1 h) hmore
          obtain ⟨J, hJ⟩ : ∃ J, J = joined ((l.drop k).take W) := ⟨_, rfl⟩
          have hru : rune (l.drop k) = J := by unfold rune; rw [if_pos (by rw [← HW.out, ← HNd.out]; exact heq), hJ, HW.out]
          have F1 := Lib.hid (show ps ++ [⟨J, q + k, W⟩] ++ dec true (q + (k + W)) (l.drop (k + W)) = dec true q l by
            rw [← HD.out, dec_step true _ HDN.out (by simp [hmf]), hru, ← HW.out, List.drop_drop, List.append_assoc, ← Nat.add_assoc]; rfl)
          have F2 := Lib.hid (show k + W + eat (l.drop (k + W)) = eat l by rw [← HE.out, eat_step HDN.out hmf, ← HW.out, List.drop_drop, Nat.add_assoc])
          have hsz : H ≤ wr.heap.size := by have := hbel.size; rw [HH.out]; exact this
          have hpt : pts (ps ++ [⟨J, q + k, W⟩]) = pts ps ++ [.int .i32 J, .int .i64 ((q : Int) + (k : Int)), .int .i64 W] := by rw [pts_append]; rfl
          have HP := Lib.hid hpt
          have hrt : Rd wr H (some ⟨b, o + k, none⟩) (bys ((l.drop k).take W)) := by have := hrw.take_ W; rwa [bys_take] at this
          have htl : ((l.drop k).take W).length = W := by rw [List.length_take, HDL.out]; omega
          have htn : W = nd ((l.drop k).take W) := by
            have h := HNd.out
            rw [heq, h]
            have hne := HDN.out
            cases hd : l.drop k with
            | nil => exact absurd hd hne
            | cons x t => rw [hd] at h; rw [← h, ← heq]; obtain ⟨W', hW'⟩ : ∃ W', W = W' + 1 := ⟨W - 1, by omega⟩; rw [hW']; simp only [List.take_succ_cons, nd] at h ⊢; omega
          have hj : ∀ (u : World), Rd u H (some ⟨b, o + k, none⟩) (bys ((l.drop k).take W)) → Calls Tryz.prog 115 #[.slice (some ⟨b, o + k, none⟩) W (c - k)] u fun e w' => e = .returned (.int .i32 (J : Int)) ∧ u = w' := by
            intro u hu
            rw [hJ]
            exact join_at _ _ W (c - k) H u htl hu (by omega) htn (by omega) (by omega)
          have HJC := Lib.hid hj
          clear HD HE hmf hpt hru hJ htl htn hj hmore
          have h1 : ((W : Int) == (N : Int)) = true := by simp; omega
          have h2 : ¬ (W : Int) < (N : Int) := by omega
          have HEQ := Lib.hid heq
          clear heq
          go_wp2_with (first
            | (go_at_call 114; refine hm.out.mono ?_; rintro e w' ⟨rfl, rfl⟩)
            | (go_at_call 115; refine (HJC.out _ (hrt.alloc hsz _)).mono ?_; rintro e w' ⟨rfl, rfl⟩)
            | (at_builtin; refine wpList_append_rd _ rfl (.tmp 44) (.tmp 46) _ rfl H 58 i0 _ 3 24 Tryz.underlying55 hi hz0 hz1 hz2 rfl (by decide) _ _ _ rfl ((hown.alloc _).alloc _) _ (some ⟨wr.heap.size + 1, 0, none⟩) 1 1 [.int .i32 J, .int .i64 ((q : Int) + (k : Int)), .int .i64 W] rfl rfl (rd_new _ _ [.int .i32 J, .int .i64 ((q : Int) + (k : Int)), .int .i64 W] _ (by simp)) one3 (by unfold maxLen; omega) (by omega) (by simp; omega) ?_; intro v2 w2 hown2 hgr2 hat2))
          go_roundw
          case rel => exact ⟨k + W, ps ++ [⟨J, q + k, W⟩], by omega, by go_num, by rw [HP.out, List.length_append]; exact hown2, F1, F2, by simp; omega, ((hbel.alloc hsz _).alloc (by simp; omega) _).grown hgr2 (by simp; omega) (fun g hg => (hown.lt g hg).1)⟩
          case measure => simp [intOf]; omega
        · have hmf : more (l.drop k) = false := by
            cases h : more (l.drop k) with
            | false => rfl
            | true => exact absurd (HMI.out.1 h) hmore
          have F1 := Lib.hid (show ps ++ [⟨65533, q + k, W⟩] ++ dec true (q + (k + W)) (l.drop (k + W)) = dec true q l by
            rw [← HD.out, dec_step true _ HDN.out (by simp [hmf]), ← HW.out, List.drop_drop, List.append_assoc, ← Nat.add_assoc]
            have : rune (l.drop k) = 65533 := by unfold rune; rw [if_neg (by rw [← HW.out, ← HNd.out]; exact heq)]
            rw [this]; rfl)
          have F2 := Lib.hid (show k + W + eat (l.drop (k + W)) = eat l by rw [← HE.out, eat_step HDN.out hmf, ← HW.out, List.drop_drop, Nat.add_assoc])
          have hsz : H ≤ wr.heap.size := by have := hbel.size; rw [HH.out]; exact this
          have hpt : pts (ps ++ [⟨65533, q + k, W⟩]) = pts ps ++ [.int .i32 65533, .int .i64 ((q : Int) + (k : Int)), .int .i64 W] := by rw [pts_append]; rfl
          have HP := Lib.hid hpt
          clear HD HE hmf hpt
          have hcase : (N : Int) < (W : Int) ∨ ((W : Int) < (N : Int) ∧ ((W : Int) == ((n - k : Nat) : Int)) = false) := by
            by_cases h : W < N
            · right; refine ⟨by omega, ?_⟩; simp; intro h2; exact hmore ⟨h, by omega⟩
            · left; omega
          have hne : ((W : Int) == (N : Int)) = false := by simp; omega
          clear hmore heq
          rcases hcase with h1 | ⟨h1, h2⟩
          all_goals
            go_wp2_with (first
              | (go_at_call 114; refine hm.out.mono ?_; rintro e w' ⟨rfl, rfl⟩)
              | (at_builtin; refine wpList_append_rd _ rfl (.tmp 44) (.tmp 46) _ rfl H 58 i0 _ 3 24 Tryz.underlying55 hi hz0 hz1 hz2 rfl (by decide) _ _ _ rfl ((hown.alloc _).alloc _) _ (some ⟨wr.heap.size + 1, 0, none⟩) 1 1 [.int .i32 65533, .int .i64 ((q : Int) + (k : Int)), .int .i64 W] rfl rfl (rd_new _ _ [.int .i32 65533, .int .i64 ((q : Int) + (k : Int)), .int .i64 W] _ (by simp)) one3 (by unfold maxLen; omega) (by omega) (by simp; omega) ?_; intro v2 w2 hown2 hgr2 hat2))
            go_roundw
            case rel => exact ⟨k + W, ps ++ [⟨65533, q + k, W⟩], by omega, by go_num, by rw [HP.out, List.length_append]; exact hown2, F1, F2, by simp; omega, ((hbel.alloc hsz _).alloc (by simp; omega) _).grown hgr2 (by simp; omega) (fun g hg => (hown.lt g hg).1)⟩
            case measure => simp [intOf]; omega
    · have hkn : k = n := by omega
      have hnil : l.drop k = [] := List.drop_eq_nil_of_le (by have := HN.out; omega)
      have F1 := Lib.hid (show ps = dec true q l by rw [← HD.out, hnil, dec_nil, List.append_nil])
      have F2 := Lib.hid (show k = eat l by rw [← HE.out, hnil]; rfl)
      clear HD HE hnil hkn
      go_wp2
      go_ret2
      exact sure_of HH.out F1.out F2.out hown hbel
end Go.Proofs.YtipcbiecdabihaaGreat.Utf
