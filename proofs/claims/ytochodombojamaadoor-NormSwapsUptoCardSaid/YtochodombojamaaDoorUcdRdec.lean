/-
  CONTRACTS OF the document's Decompose and Opens: the first that decomposes is put in its parts' place, again and again.
-/
import Derived.Test.YtochodombojamaaDoorUcdRpairs
import Derived.Test.YtochodombojamaaDoorUcdRcls
import Derived.Test.YtochodombojamaaDoorUcdBase
import Derived.Deep.LoopGhost
namespace Go.Proofs.YtochodombojamaaDoor.Ucd
open Go.RowKit Utf

/-! ### mathematics -/
theorem dep_parts {k : Nat} {x : Int} (h : dep (k + 1) x = true) (hz : ¬ (pairF x).2.2 = 0) : dep k (pairF x).1 = true ∧ ((pairF x).2.2 = 1 ∨ (pairF x).2.2 = 2 ∧ dep k (pairF x).2.1 = true) := by
  have e : ((pairF x).2.2 == 0) = false := by simpa using hz
  rw [dep, e, Bool.false_or, Bool.and_eq_true, Bool.or_eq_true, Bool.and_eq_true, beq_iff_eq, beq_iff_eq] at h
  exact h
theorem full_more (k : Nat) : ∀ x, dep k x = true → full (k + 1) x = full k x := by
  induction k with
  | zero =>
    intro x h
    have : (pairF x).2.2 = 0 := by simpa [dep] using h
    simp [full, this]
  | succ k ih =>
    intro x h
    have e1 : full (k + 1 + 1) x = if (pairF x).2.2 = 0 then [x] else full (k + 1) (pairF x).1 ++ (if (pairF x).2.2 = 2 then full (k + 1) (pairF x).2.1 else []) := rfl
    have e2 : full (k + 1) x = if (pairF x).2.2 = 0 then [x] else full k (pairF x).1 ++ (if (pairF x).2.2 = 2 then full k (pairF x).2.1 else []) := rfl
    rw [e1, e2]
    by_cases hz : (pairF x).2.2 = 0
    · rw [if_pos hz, if_pos hz]
    · obtain ⟨ha, hb⟩ := dep_parts h hz
      rw [if_neg hz, if_neg hz, ih _ ha]
      rcases hb with hb | ⟨hb, hd⟩
      · rw [if_neg (by omega), if_neg (by omega)]
      · rw [if_pos hb, if_pos hb, ih _ hd]
theorem full_step {x : Int} (hz : ¬ (pairF x).2.2 = 0) : fullF x = fullF (pairF x).1 ++ (if (pairF x).2.2 = 2 then fullF (pairF x).2.1 else []) := by
  have e : full 4 x = if (pairF x).2.2 = 0 then [x] else full 3 (pairF x).1 ++ (if (pairF x).2.2 = 2 then full 3 (pairF x).2.1 else []) := rfl
  rw [fullF, ← full_more 3 x (dep_all x), e, if_neg hz]
  rfl
theorem full_self {x : Int} (hz : (pairF x).2.2 = 0) : fullF x = [x] := by rw [fullF, full, if_pos hz]
/-- how many steps are to come -/
def wtG : Nat → Int → Nat
  | 0, _ => 0
  | k + 1, x => if (pairF x).2.2 = 0 then 0 else 1 + wtG k (pairF x).1 + (if (pairF x).2.2 = 2 then wtG k (pairF x).2.1 else 0)
theorem wt_more (k : Nat) : ∀ x, dep k x = true → wtG (k + 1) x = wtG k x := by
  induction k with
  | zero =>
    intro x h
    have : (pairF x).2.2 = 0 := by simpa [dep] using h
    simp [wtG, this]
  | succ k ih =>
    intro x h
    have e1 : wtG (k + 1 + 1) x = if (pairF x).2.2 = 0 then 0 else 1 + wtG (k + 1) (pairF x).1 + (if (pairF x).2.2 = 2 then wtG (k + 1) (pairF x).2.1 else 0) := rfl
    have e2 : wtG (k + 1) x = if (pairF x).2.2 = 0 then 0 else 1 + wtG k (pairF x).1 + (if (pairF x).2.2 = 2 then wtG k (pairF x).2.1 else 0) := rfl
    rw [e1, e2]
    by_cases hz : (pairF x).2.2 = 0
    · rw [if_pos hz, if_pos hz]
    · obtain ⟨ha, hb⟩ := dep_parts h hz
      rw [if_neg hz, if_neg hz, ih _ ha]
      rcases hb with hb | ⟨hb, hd⟩
      · rw [if_neg (by omega), if_neg (by omega)]
      · rw [if_pos hb, if_pos hb, ih _ hd]
def wt (x : Int) : Nat := wtG 3 x
theorem wt_step {x : Int} (hz : ¬ (pairF x).2.2 = 0) : wt x = 1 + wt (pairF x).1 + (if (pairF x).2.2 = 2 then wt (pairF x).2.1 else 0) := by
  have e : wtG 4 x = if (pairF x).2.2 = 0 then 0 else 1 + wtG 3 (pairF x).1 + (if (pairF x).2.2 = 2 then wtG 3 (pairF x).2.1 else 0) := rfl
  rw [wt, ← wt_more 3 x (dep_all x), e, if_neg hz]
  rfl
def parts (q : Int × Int × Int) : List Int := if q.2.2 = 1 then [q.1] else [q.1, q.2.1]
theorem parts_len (q : Int × Int × Int) : (parts q).length ≤ 2 := by unfold parts; split <;> simp
/-- the list with its j-th put in its parts' place -/
def put (L : List Int) (j : Nat) (P : List Int) : List Int := L.take j ++ P ++ L.drop (j + 1)
theorem split_at {L : List Int} {j : Nat} (h : j < L.length) : L = L.take j ++ L[j] :: L.drop (j + 1) := by
  rw [← List.drop_eq_getElem_cons h, List.take_append_drop]
theorem put_full {L : List Int} {j : Nat} (h : j < L.length) (hz : ¬ (pairF L[j]).2.2 = 0) : (put L j (parts (pairF L[j]))).flatMap fullF = L.flatMap fullF := by
  have hn := pair_n L[j]
  conv => rhs; rw [split_at h]
  simp only [put, List.flatMap_append, List.flatMap_cons, List.append_assoc]
  congr 1
  rw [full_step hz]
  unfold parts
  rcases hn with hn | hn | hn
  · exact absurd hn hz
  · rw [if_pos hn, if_neg (by omega)]; simp
  · rw [if_neg (by omega), if_pos hn]; simp
theorem put_wt {L : List Int} {j : Nat} (h : j < L.length) (hz : ¬ (pairF L[j]).2.2 = 0) : ((put L j (parts (pairF L[j]))).map wt).sum < (L.map wt).sum := by
  have hn := pair_n L[j]
  conv => rhs; rw [split_at h]
  simp only [put, List.map_append, List.sum_append, List.map_cons, List.sum_cons]
  rw [wt_step hz]
  unfold parts
  rcases hn with hn | hn | hn
  · exact absurd hn hz
  · rw [if_pos hn, if_neg (by omega)]; simp; omega
  · rw [if_neg (by omega), if_pos hn]; simp; omega
theorem full_some (x : Int) : 1 ≤ (fullF x).length := (bottom_parts x).1
theorem flat_len : ∀ L : List Int, L.length ≤ (L.flatMap fullF).length
  | [] => by simp
  | x :: t => by
    have := flat_len t
    have := full_some x
    simp only [List.flatMap_cons, List.length_append, List.length_cons]
    omega
/-- what has been written of the new list when k places are over -/
def grow (L : List Int) (j : Nat) (P : List Int) (k : Nat) : List Int := if k ≤ j then L.take k else L.take j ++ P ++ (L.drop (j + 1)).take (k - (j + 1))
theorem grow_other {L : List Int} {j : Nat} (P : List Int) {k : Nat} (hk : k < L.length) (hj : k ≠ j) : grow L j P (k + 1) = grow L j P k ++ [L[k]] := by
  unfold grow
  by_cases h : k < j
  · rw [if_pos (by omega), if_pos (by omega), List.take_succ_eq_append_getElem hk]
  · rw [if_neg (by omega), if_neg (by omega)]
    have hd : k - (j + 1) < (L.drop (j + 1)).length := by rw [List.length_drop]; omega
    rw [show k + 1 - (j + 1) = (k - (j + 1)) + 1 from by omega, List.take_succ_eq_append_getElem hd, ← List.append_assoc]
    congr 2
    rw [List.getElem_drop]
    congr 1
    omega
theorem grow_at (L : List Int) (j : Nat) (P : List Int) : grow L j P (j + 1) = grow L j P j ++ P := by
  unfold grow
  rw [if_neg (by omega), if_pos (Nat.le_refl _)]
  simp
theorem grow_all {L : List Int} {j : Nat} (P : List Int) (h : j < L.length) : grow L j P L.length = put L j P := by
  unfold grow put
  rw [if_neg (by omega)]
  congr 1
  exact List.take_of_length_le (by rw [List.length_drop]; omega)
theorem grow_len (L : List Int) (j : Nat) (P : List Int) (hP : P.length ≤ 2) (k : Nat) : (grow L j P k).length ≤ k + 1 := by
  unfold grow
  split
  · rw [List.length_take]; omega
  · simp only [List.length_append, List.length_take]; omega
theorem all_self : ∀ {L : List Int}, (∀ x ∈ L, (pairF x).2.2 = 0) → L.flatMap fullF = L
  | [], _ => rfl
  | x :: t, h => by rw [List.flatMap_cons, full_self (h x (by simp)), all_self fun y hy => h y (by simp [hy])]; rfl

/-! ### the walk -/
theorem own_cast {w : World} {base : Nat} {v : Value} {G X G' : List Int} (h : w.ownsRow base 21 1 v (G.length + X.length) (nums G ++ nums X)) (e : G ++ X = G') : w.ownsRow base 21 1 v G'.length (nums G') := by
  subst e
  rw [List.length_append, nums_append]
  exact h
/-- a slice of numbers, told and read; it lies in new memory -/
def NewAt (w : World) (xs : List Int) (e : Ending) (w' : World) : Prop := ∃ A c, e = .returned (.slice A xs.length c) ∧ xs.length ≤ c ∧ c ≤ 9223372036854775807 ∧ Rd w' w'.heap.size A (nums xs) ∧ Below w.heap.size w w' ∧ ∀ b o, A = some ⟨b, o, none⟩ → w.heap.size ≤ b
set_option maxRecDepth 100000 in
set_option maxHeartbeats 16000000 in
theorem rdec_new (r : Int) (w : World) : Calls Tryd.prog 5 #[.int .i32 r] w (NewAt w (fullF r)) := by
  obtain ⟨i0, hi, hz0, hz1, hz2⟩ := info_parts infoI32
  go_enter Tryd.func5, Tryd.ntmps5
  go_wp2
  go_loopg [3] (wt r) (fun g l wr => ∃ (L : List Int) (m : Nat) (A : Option Addr) (c : Nat), l = .slice A m c ∧ Hid (m = L.length) ∧ Hid (m ≤ c ∧ c ≤ 9223372036854775807 ∧ Rd wr wr.heap.size A (nums L) ∧ L.flatMap fullF = fullF r ∧ (L.map wt).sum ≤ g ∧ Below w.heap.size w wr ∧ ∀ b o, A = some ⟨b, o, none⟩ → w.heap.size ≤ b))
  case atStart =>
    exact ⟨[r], 1, some ⟨w.heap.size, 0, none⟩, 1, rfl, Lib.hid rfl, Lib.hid ⟨Nat.le_refl _, by omega, (rd_new w _ (nums [r]) _ rfl).more (by simp), by simp, by simp, (Below.refl _ _).alloc (Nat.le_refl _) _, fun b o h => by cases h; exact Nat.le_refl _⟩⟩
  case round =>
    obtain ⟨L, m, A, c, rfl, HM, H⟩ := hrel
    have hm3 : m ≤ 3 := by
      have h1 := flat_len L
      rw [H.out.2.2.2.1] at h1
      have h2 := (bottom_parts r).2.1
      have := HM.out
      omega
    obtain ⟨wo, hwo⟩ : ∃ wo, wo = wr := ⟨_, rfl⟩
    rw [← hwo] at H ⊢
    clear hwo
    go_wp2
    go_loopw [4, 5, 6, 7, 8] (fun at_ a b n i wx => ∃ (k : Nat) (z qa qb qn : Int), k ≤ m ∧ at_ = .int .i64 z ∧ a = .int .i32 qa ∧ b = .int .i32 qb ∧ n = .int .i64 qn ∧ i = .int .i64 k ∧ Hid (Below wo.heap.size wo wx) ∧ Hid ((z = -1 ∧ ∀ x ∈ L.take k, (pairF x).2.2 = 0) ∨ (∃ j : Nat, z = j ∧ j < m ∧ ∃ h : j < L.length, pairF L[j] = (qa, qb, qn) ∧ qn ≠ 0))) (fun _ _ _ _ i _ => m - (intOf i).toNat)
    case atStart => exact ⟨0, -1, 0, 0, 0, by omega, rfl, rfl, rfl, rfl, rfl, Lib.hid (Below.refl _ _), Lib.hid (.inl ⟨rfl, by simp⟩)⟩
    case round =>
      obtain ⟨k, z, qa, qb, qn, hk, rfl, rfl, rfl, rfl, rfl, HJ, HC⟩ := hrel
      rcases HC.out with ⟨rfl, hall⟩ | ⟨j, rfl, hjm, hjl, hq, hqn⟩
      · by_cases hlt : k < m
        · have hkl : k < L.length := by rw [← HM.out]; exact hlt
          obtain ⟨b, o, rfl, hbH⟩ := H.out.2.2.1.form (by rw [nums_len]; omega)
          have hcell : wr.cell? ⟨b, o + k, none⟩ = some (.int .i32 L[k]) := (H.out.2.2.1.below HJ.out).num hkl
          have HP := Lib.hid (rpair_any L[k] wr)
          have HALL := Lib.hid (show (pairF L[k]).2.2 = 0 → ∀ x ∈ L.take (k + 1), (pairF x).2.2 = 0 from fun h0 x hx => by
            rw [List.take_succ_eq_append_getElem hkl, List.mem_append] at hx
            rcases hx with hx | hx
            · exact hall x hx
            · obtain rfl := List.mem_singleton.1 hx; exact h0)
          have hn := pair_n L[k]
          have HQ := Lib.hid (show ∃ h : k < L.length, pairF L[k] = pairF L[k] from ⟨hkl, rfl⟩)
          obtain ⟨q, hq⟩ : ∃ q, q = pairF L[k] := ⟨_, rfl⟩
          rw [← hq] at HP HALL hn
          have HQQ := Lib.hid (show ∃ h : k < L.length, pairF L[k] = q from ⟨hkl, hq.symm⟩)
          generalize L[k] = x at hcell HP
          obtain ⟨pa, pb, pn⟩ := q
          dsimp only at hn HALL
          have hlz : ((-1 : Int) < 0) = True := by simp
          clear hkl hall hq HQ
          by_cases hpn : pn = 0
          · subst hpn
            go_wp2_with fail
            refine HP.out.mono ?_
            rintro e w4 ⟨rfl, hb4⟩
            have HB4 := Lib.hid (HJ.out.trans (hb4.mono HJ.out.size))
            clear hb4
            dsimp only [trip]
            go_wp2_with fail
            go_roundw
            case rel => exact ⟨k + 1, -1, qa, qb, qn, by omega, rfl, rfl, rfl, rfl, by go_num, HB4, Lib.hid (.inl ⟨rfl, HALL.out trivial⟩)⟩
            case measure => simp [intOf]; omega
          · have hpp : 0 < pn := by rcases hn with h | h | h <;> omega
            have HPN := Lib.hid hpn
            clear hpn hn
            go_wp2_with fail
            refine HP.out.mono ?_
            rintro e w4 ⟨rfl, hb4⟩
            have HB4 := Lib.hid (HJ.out.trans (hb4.mono HJ.out.size))
            clear hb4
            dsimp only [trip]
            go_wp2_with fail
            go_roundw
            case rel => exact ⟨k + 1, k, pa, pb, pn, by omega, rfl, rfl, rfl, rfl, by go_num, HB4, Lib.hid (.inr ⟨k, rfl, hlt, by obtain ⟨h, e⟩ := HQQ.out; exact ⟨h, e, HPN.out⟩⟩)⟩
            case measure => simp [intOf]; omega
        · have HALL := Lib.hid (show L.flatMap fullF = L by
            refine all_self fun x hx => hall x ?_
            rwa [List.take_of_length_le (by have := HM.out; omega)])
          clear hall
          go_wp2_with fail
          go_ret
          have e : fullF r = L := by rw [← H.out.2.2.2.1, HALL.out]
          exact ⟨A, c, by rw [e, ← HM.out]; rfl, by rw [e, ← HM.out]; exact H.out.1, H.out.2.1, by rw [e]; exact (H.out.2.2.1.below HJ.out).more HJ.out.size, H.out.2.2.2.2.2.1.trans (HJ.out.mono H.out.2.2.2.2.2.1.size), H.out.2.2.2.2.2.2⟩
      · have hjz : decide ((j : Int) < 0) = false := by rw [decide_eq_false]; omega
        have hn2 : qn = 1 ∨ qn = 2 := by
          have h := pair_n L[j]
          rw [hq] at h
          rcases h with h | h | h
          · exact absurd h hqn
          · exact .inl h
          · exact .inr h
        obtain ⟨P, hP⟩ : ∃ P, P = parts (qa, qb, qn) := ⟨_, rfl⟩
        have hPl : P.length ≤ 2 := by rw [hP]; exact parts_len _
        have HPP := Lib.hid hP
        have HF := Lib.hid (show (put L j P).flatMap fullF = L.flatMap fullF by rw [hP, ← hq]; exact put_full hjl (by rw [hq]; exact hqn))
        have HWT := Lib.hid (show ((put L j P).map wt).sum < (L.map wt).sum by rw [hP, ← hq]; exact put_wt hjl (by rw [hq]; exact hqn))
        have HGA := Lib.hid (show grow L j P m = put L j P by rw [HM.out]; exact grow_all P hjl)
        obtain ⟨wz, hwz⟩ : ∃ wz, wz = wr := ⟨_, rfl⟩
        rw [← hwz] at HJ ⊢
        have HBW := Lib.hid (H.out.2.2.2.2.2.1.trans (HJ.out.mono H.out.2.2.2.2.2.1.size))
        have HRZ := Lib.hid ((H.out.2.2.1.below HJ.out).more HJ.out.size)
        obtain ⟨base, hbase⟩ : ∃ b, b = wz.heap.size := ⟨_, rfl⟩
        rw [← hbase] at HRZ
        have HBZ : base ≤ wz.heap.size := by omega
        have HBE := Lib.hid hbase
        clear hwz hP hq hqn hjl hbase HC
        by_cases hkm : k < m
        all_goals
          go_wp2_with fail
          go_loopw [12, 13] (fun v i wx => ∃ t : Nat, t ≤ m ∧ i = .int .i64 t ∧ Hid (wx.ownsRow base 21 1 v (grow L j P t).length (nums (grow L j P t)) ∧ Below base wz wx)) (fun _ i _ => m - (intOf i).toNat)
          case atStart => exact ⟨0, Nat.zero_le _, rfl, Lib.hid ⟨by rw [show grow L j P 0 = [] by unfold grow; rw [if_pos (Nat.zero_le _)]; rfl]; exact World.ownsRow_nil _ _ _ _, Below.refl _ _⟩⟩
          case round =>
            rename_i v12 _
            obtain ⟨t, ht, rfl, HO⟩ := hrel
            have hgl := grow_len L j P hPl t
            by_cases htm : t < m
            · have htl : t < L.length := by rw [← HM.out]; exact htm
              by_cases htj : t = j
              · have hjt : j = t := htj.symm
                clear htj
                subst hjt
                clear htl
                rcases hn2 with rfl | rfl
                · go_wp2_with (at_builtin; refine wpList_append_rd _ rfl (.tmp 62) (.tmp 64) _ rfl base 21 i0 _ 1 4 Tryd.underlying22 hi hz0 hz1 hz2 rfl (by decide) _ (grow L j P j).length (nums (grow L j P j)) rfl (HO.out.1.alloc _) _ (some ⟨wr.heap.size, 0, none⟩) 1 1 [.int .i32 qa] rfl rfl (rd_new _ _ [.int .i32 qa] _ rfl) (nums_one [qa]) (by unfold maxLen; omega) (by omega) (by have := HO.out.2.size; simp; omega) ?_; intro v6 w6 hown6 hgr6 _)
                  have HZ := Lib.hid (show w6.ownsRow base 21 1 v6 (grow L j P (j + 1)).length (nums (grow L j P (j + 1))) ∧ Below base wz w6 from ⟨own_cast hown6 (X := [qa]) (by rw [grow_at, HPP.out]; rfl), Below.grown (HO.out.2.alloc (Nat.le_trans HBZ HO.out.2.size) _) hgr6 (by have := HO.out.2.size; simp; omega) (fun y hy => (HO.out.1.lt y hy).1)⟩)
                  clear hown6 hgr6
                  go_roundw
                  case rel => exact ⟨j + 1, by omega, by go_num, HZ⟩
                  case measure => simp [intOf]; omega
                · go_wp2_with (at_builtin; refine wpList_append_rd _ rfl (.tmp 66) (.tmp 69) _ rfl base 21 i0 _ 1 4 Tryd.underlying22 hi hz0 hz1 hz2 rfl (by decide) _ (grow L j P j).length (nums (grow L j P j)) rfl (HO.out.1.alloc _) _ (some ⟨wr.heap.size, 0, none⟩) 2 2 [.int .i32 qa, .int .i32 qb] rfl rfl (rd_new _ _ [.int .i32 qa, .int .i32 qb] _ rfl) (nums_one [qa, qb]) (by unfold maxLen; omega) (by omega) (by have := HO.out.2.size; simp; omega) ?_; intro v6 w6 hown6 hgr6 _)
                  have HZ := Lib.hid (show w6.ownsRow base 21 1 v6 (grow L j P (j + 1)).length (nums (grow L j P (j + 1))) ∧ Below base wz w6 from ⟨own_cast hown6 (X := [qa, qb]) (by rw [grow_at, HPP.out]; rfl), Below.grown (HO.out.2.alloc (Nat.le_trans HBZ HO.out.2.size) _) hgr6 (by have := HO.out.2.size; simp; omega) (fun y hy => (HO.out.1.lt y hy).1)⟩)
                  clear hown6 hgr6
                  go_roundw
                  case rel => exact ⟨j + 1, by omega, by go_num, HZ⟩
                  case measure => simp [intOf]; omega
              · have htj' : ((t : Int) != (j : Int)) = true := by simp; omega
                obtain ⟨b, o, rfl, hbH⟩ := HRZ.out.form (by rw [nums_len]; omega)
                have hcell : wr.cell? ⟨b, o + t, none⟩ = some (.int .i32 L[t]) := (HRZ.out.below HO.out.2).num htl
                have HG := Lib.hid (grow_other P htl htj)
                generalize L[t] = x at hcell HG
                clear htj htl
                go_wp2_with (at_builtin; refine wpList_append_rd _ rfl (.tmp 53) (.tmp 58) _ rfl base 21 i0 _ 1 4 Tryd.underlying22 hi hz0 hz1 hz2 rfl (by decide) _ (grow L j P t).length (nums (grow L j P t)) rfl (HO.out.1.alloc _) _ (some ⟨wr.heap.size, 0, none⟩) 1 1 [.int .i32 x] rfl rfl (rd_new _ _ [.int .i32 x] _ rfl) (nums_one [x]) (by unfold maxLen; omega) (by omega) (by have := HO.out.2.size; simp; omega) ?_; intro v6 w6 hown6 hgr6 _)
                have HZ := Lib.hid (show w6.ownsRow base 21 1 v6 (grow L j P (t + 1)).length (nums (grow L j P (t + 1))) ∧ Below base wz w6 from ⟨own_cast hown6 (X := [x]) HG.out.symm, Below.grown (HO.out.2.alloc (Nat.le_trans HBZ HO.out.2.size) _) hgr6 (by have := HO.out.2.size; simp; omega) (fun y hy => (HO.out.1.lt y hy).1)⟩)
                clear hown6 hgr6
                go_roundw
                case rel => exact ⟨t + 1, by omega, by go_num, HZ⟩
                case measure => simp [intOf]; omega
            · obtain rfl : t = m := by omega
              have HO1 := Lib.hid HO.out.1
              rw [HGA.out] at HO1
              obtain ⟨A6, c6, rfl, h6a, h6b, hr6⟩ := own_form HO1.out
              have H6 := Lib.hid (And.intro h6a (And.intro h6b hr6))
              have HN6 := Lib.hid (show ∀ b o, A6 = some ⟨b, o, none⟩ → w.heap.size ≤ b from fun b o h => by
                subst h
                have h1 := (HO1.out.lt b rfl).1
                have h2 := HBW.out.size
                have h3 := HBE.out
                omega)
              have HB6 := Lib.hid (HBW.out.trans (Below.mono (Below.trans (Below.refl _ _) HO.out.2) (Nat.le_trans HBW.out.size (Nat.le_of_eq HBE.out.symm))))
              clear h6a h6b hr6 hgl
              go_wp2_with fail
              go_roundg (((put L j P).map wt).sum)
              case measure => exact Nat.lt_of_lt_of_le HWT.out H.out.2.2.2.2.1
              case rel => exact ⟨put L j P, (put L j P).length, A6, c6, rfl, Lib.hid rfl, Lib.hid ⟨H6.out.1, H6.out.2.1, H6.out.2.2, by rw [HF.out]; exact H.out.2.2.2.1, Nat.le_refl _, HB6.out, HN6.out⟩⟩
theorem rdec_any (r : Int) (w : World) : Calls Tryd.prog 5 #[.int .i32 r] w (New w (fullF r)) :=
  (rdec_new r w).mono fun _ _ ⟨A, c, h1, h2, h3, h4, h5, _⟩ => ⟨A, c, h1, h2, h3, h4, h5⟩

end Go.Proofs.YtochodombojamaaDoor.Ucd
