/-
  CONTRACT OF Add, OF EACH KIND.
-/
import Derived.Test.YtckdjbonplpknaaSparseHas
namespace Go.Proofs.Ytckdjbonplpknaa.Sparse
open Go.RowKit Mem
set_option maxRecDepth 100000

set_option maxHeartbeats 4000000 in
theorem add_uint8 (x : Int) (B g p N : Nat) (v : Value) (l : List Int) (w : World) (h : Ss 64 5 .u8 w B g p v N l) (hl : 0 ≤ x) (hh : x ≤ 255) :
    Calls Try.prog 15 #[.pointer (some ⟨g, 0, none⟩), .int .u8 x] w (Adds 64 5 .u8 w B g p v N l x) := by
  have HT := Lib.hid (takes_uint8 x g p N v w h.blk hl hh)
  have HS := Lib.hid h
  by_cases c : 0 ≤ x ∧ x < N
  · obtain ⟨X, rfl⟩ : ∃ X : Nat, x = X := ⟨x.toNat, by omega⟩
    have HH := Lib.hid (holds_uint8 X B g p N v l w h (by omega))
    rw [decide_eq_true c] at HT
    by_cases hm : (X : Int) ∈ l
    · rw [decide_eq_true hm] at HH
      clear h
      go_enter Try.func15, Try.ntmps15
      go_wp2_with (first | (go_at_call 34; refine HT.out.mono ?_; rintro e1 w1 ⟨rfl, rfl⟩) | (go_at_call 35; refine HH.out.mono ?_; rintro e2 w2 ⟨rfl, rfl⟩))
      go_ret
      exact ⟨v, ret_bool (fresh_there hm).symm, by rw [put_no (fresh_there hm)]; exact HS.out, Chg.refl _ _, Grew.refl _ _⟩
    · have HF := Lib.hid (show fresh N l (X : Int) = true from fresh_iff.2 ⟨c.1, c.2, hm⟩)
      rw [decide_eq_false hm] at HH
      obtain ⟨i0, hi, hz0, hz1, hz2⟩ := info_parts infoU8
      have c0 := h.c0
      have c1 := h.c1
      obtain ⟨y, _, cp, fp, _⟩ := h.place (X := X) (by omega)
      have hless := h.less HF.out
      have hsm := h.sm
      have hgp := h.gp
      have hbase : B ≤ w.heap.size := by have := (h.hers (.inl rfl)); omega
      obtain ⟨n, hn⟩ : ∃ n, n = l.length := ⟨_, rfl⟩
      have hnN : n < N := by omega
      have ew : IntKind.u16.wrap (n : Int) = n := by rw [IntKind.wrap_u16]; omega
      have hXN : (X : Int) < N := by omega
      obtain ⟨A, ca, hv, _, _, _⟩ := own_form h.own
      rw [← hn] at hv
      subst hv
      have HN := Lib.hid hn
      have HO := Lib.hid h.own
      have hplt := h.plt
      have hglt := h.blk.lt
      obtain ⟨w1, hw1⟩ : ∃ w1, w1 = w.setCell ⟨p, X, none⟩ (.int .u16 (n : Int)) := ⟨_, rfl⟩
      have hO1 : w1.ownsRow B 5 1 (.slice A n ca) n (ks .u8 l) := by
        have := own_set h.own h.nep (o := X) (.int .u16 (n : Int))
        rw [← hw1, ← hn] at this
        exact this
      have d0 : w1.cell? ⟨g, 0, none⟩ = some (.slice A n ca) := by rw [hw1, World.cell?_setCell_other _ _ _ _ (fun e => hgp (congrArg Addr.block e).symm)]; exact c0
      have hs1 : w1.heap.size = w.heap.size := by rw [hw1]; simp [World.setCell]
      have HO1 := Lib.hid hO1
      have HW1 := Lib.hid hw1
      have HBS := Lib.hid hbase
      have HS1 := Lib.hid hs1
      clear h hO1 hn hm hless hplt hbase hw1 hs1
      go_enter Try.func15, Try.ntmps15
      go_wp2_with (first | (go_at_call 34; refine HT.out.mono ?_; rintro e1 w1 ⟨rfl, rfl⟩) | (go_at_call 35; refine HH.out.mono ?_; rintro e2 w2 ⟨rfl, rfl⟩))
      go_region
      all_goals rw [← HW1.out]
      all_goals go_wp2_with (at_builtin; refine wpList_append_rd _ rfl (.tmp 30) (.tmp 32) _ rfl B 5 i0 _ 1 1 Try.underlying33 hi hz0 hz1 hz2 rfl (by decide) (.slice A n ca) n (ks .u8 l) rfl (own_below HO1.out (by first | exact ((Below.refl _ _).alloc (Nat.le_refl _) _).drew | exact ((Below.refl _ _).alloc (Nat.le_refl _) _) | exact ((Below.refl _ _).drew.alloc (Nat.le_refl _) _))) _ (some ⟨w1.heap.size, 0, none⟩) 1 1 [.int .u8 X] rfl rfl (rd_new _ _ [.int .u8 X] _ rfl) (ks_one .u8 [(X : Int)]) (by unfold maxLen; omega) (by omega) (by have := HBS.out; have := HS1.out; simp; omega) ?_; intro v6 w6 hown6 hgr6 hat6; obtain ⟨k1, k2, k3, c6, f6⟩ := HS.out.snoc HN.out HF.out HW1.out (by first | exact ((Below.refl _ _).alloc (Nat.le_refl _) _).drew | exact ((Below.refl _ _).alloc (Nat.le_refl _) _) | exact ((Below.refl _ _).drew.alloc (Nat.le_refl _) _)) hown6 hgr6 hat6; obtain ⟨A6, ca6, hv6, _, _, _⟩ := own_form hown6; subst hv6; have K1 := Lib.hid k1; have K2 := Lib.hid k2; have K3 := Lib.hid k3; clear k1 k2 k3 hown6 hgr6 hat6)
      all_goals go_ret
      all_goals exact ⟨_, ret_bool HF.out.symm, K1.out, K2.out, K3.out⟩
  · rw [decide_eq_false c] at HT
    clear h
    go_enter Try.func15, Try.ntmps15
    go_wp2_with (first | (go_at_call 34; refine HT.out.mono ?_; rintro e1 w1 ⟨rfl, rfl⟩))
    go_ret
    exact ⟨v, ret_bool (fresh_out c).symm, by rw [put_no (fresh_out c)]; exact HS.out, Chg.refl _ _, Grew.refl _ _⟩

set_option maxHeartbeats 4000000 in
theorem add_uint16 (x : Int) (B g p N : Nat) (v : Value) (l : List Int) (w : World) (h : Ss 66 38 .u16 w B g p v N l) (hl : 0 ≤ x) (hh : x ≤ 65535) :
    Calls Try.prog 16 #[.pointer (some ⟨g, 0, none⟩), .int .u16 x] w (Adds 66 38 .u16 w B g p v N l x) := by
  have HT := Lib.hid (takes_uint16 x g p N v w h.blk hl hh)
  have HS := Lib.hid h
  by_cases c : 0 ≤ x ∧ x < N
  · obtain ⟨X, rfl⟩ : ∃ X : Nat, x = X := ⟨x.toNat, by omega⟩
    have HH := Lib.hid (holds_uint16 X B g p N v l w h (by omega))
    rw [decide_eq_true c] at HT
    by_cases hm : (X : Int) ∈ l
    · rw [decide_eq_true hm] at HH
      clear h
      go_enter Try.func16, Try.ntmps16
      go_wp2_with (first | (go_at_call 36; refine HT.out.mono ?_; rintro e1 w1 ⟨rfl, rfl⟩) | (go_at_call 37; refine HH.out.mono ?_; rintro e2 w2 ⟨rfl, rfl⟩))
      go_ret
      exact ⟨v, ret_bool (fresh_there hm).symm, by rw [put_no (fresh_there hm)]; exact HS.out, Chg.refl _ _, Grew.refl _ _⟩
    · have HF := Lib.hid (show fresh N l (X : Int) = true from fresh_iff.2 ⟨c.1, c.2, hm⟩)
      rw [decide_eq_false hm] at HH
      obtain ⟨i0, hi, hz0, hz1, hz2⟩ := info_parts infoU16
      have c0 := h.c0
      have c1 := h.c1
      obtain ⟨y, _, cp, fp, _⟩ := h.place (X := X) (by omega)
      have hless := h.less HF.out
      have hsm := h.sm
      have hgp := h.gp
      have hbase : B ≤ w.heap.size := by have := (h.hers (.inl rfl)); omega
      obtain ⟨n, hn⟩ : ∃ n, n = l.length := ⟨_, rfl⟩
      have hnN : n < N := by omega
      have ew : IntKind.u16.wrap (n : Int) = n := by rw [IntKind.wrap_u16]; omega
      have hXN : (X : Int) < N := by omega
      obtain ⟨A, ca, hv, _, _, _⟩ := own_form h.own
      rw [← hn] at hv
      subst hv
      have HN := Lib.hid hn
      have HO := Lib.hid h.own
      have hplt := h.plt
      have hglt := h.blk.lt
      obtain ⟨w1, hw1⟩ : ∃ w1, w1 = w.setCell ⟨p, X, none⟩ (.int .u16 (n : Int)) := ⟨_, rfl⟩
      have hO1 : w1.ownsRow B 38 1 (.slice A n ca) n (ks .u16 l) := by
        have := own_set h.own h.nep (o := X) (.int .u16 (n : Int))
        rw [← hw1, ← hn] at this
        exact this
      have d0 : w1.cell? ⟨g, 0, none⟩ = some (.slice A n ca) := by rw [hw1, World.cell?_setCell_other _ _ _ _ (fun e => hgp (congrArg Addr.block e).symm)]; exact c0
      have hs1 : w1.heap.size = w.heap.size := by rw [hw1]; simp [World.setCell]
      have HO1 := Lib.hid hO1
      have HW1 := Lib.hid hw1
      have HBS := Lib.hid hbase
      have HS1 := Lib.hid hs1
      clear h hO1 hn hm hless hplt hbase hw1 hs1
      go_enter Try.func16, Try.ntmps16
      go_wp2_with (first | (go_at_call 36; refine HT.out.mono ?_; rintro e1 w1 ⟨rfl, rfl⟩) | (go_at_call 37; refine HH.out.mono ?_; rintro e2 w2 ⟨rfl, rfl⟩))
      go_region
      all_goals rw [← HW1.out]
      all_goals go_wp2_with (at_builtin; refine wpList_append_rd _ rfl (.tmp 30) (.tmp 32) _ rfl B 38 i0 _ 1 2 Try.underlying48 hi hz0 hz1 hz2 rfl (by decide) (.slice A n ca) n (ks .u16 l) rfl (own_below HO1.out (by first | exact ((Below.refl _ _).alloc (Nat.le_refl _) _).drew | exact ((Below.refl _ _).alloc (Nat.le_refl _) _) | exact ((Below.refl _ _).drew.alloc (Nat.le_refl _) _))) _ (some ⟨w1.heap.size, 0, none⟩) 1 1 [.int .u16 X] rfl rfl (rd_new _ _ [.int .u16 X] _ rfl) (ks_one .u16 [(X : Int)]) (by unfold maxLen; omega) (by omega) (by have := HBS.out; have := HS1.out; simp; omega) ?_; intro v6 w6 hown6 hgr6 hat6; obtain ⟨k1, k2, k3, c6, f6⟩ := HS.out.snoc HN.out HF.out HW1.out (by first | exact ((Below.refl _ _).alloc (Nat.le_refl _) _).drew | exact ((Below.refl _ _).alloc (Nat.le_refl _) _) | exact ((Below.refl _ _).drew.alloc (Nat.le_refl _) _)) hown6 hgr6 hat6; obtain ⟨A6, ca6, hv6, _, _, _⟩ := own_form hown6; subst hv6; have K1 := Lib.hid k1; have K2 := Lib.hid k2; have K3 := Lib.hid k3; clear k1 k2 k3 hown6 hgr6 hat6)
      all_goals go_ret
      all_goals exact ⟨_, ret_bool HF.out.symm, K1.out, K2.out, K3.out⟩
  · rw [decide_eq_false c] at HT
    clear h
    go_enter Try.func16, Try.ntmps16
    go_wp2_with (first | (go_at_call 36; refine HT.out.mono ?_; rintro e1 w1 ⟨rfl, rfl⟩))
    go_ret
    exact ⟨v, ret_bool (fresh_out c).symm, by rw [put_no (fresh_out c)]; exact HS.out, Chg.refl _ _, Grew.refl _ _⟩

set_option maxHeartbeats 4000000 in
theorem add_int32 (x : Int) (B g p N : Nat) (v : Value) (l : List Int) (w : World) (h : Ss 68 21 .i32 w B g p v N l) (hl : -2147483648 ≤ x) (hh : x ≤ 2147483647) :
    Calls Try.prog 17 #[.pointer (some ⟨g, 0, none⟩), .int .i32 x] w (Adds 68 21 .i32 w B g p v N l x) := by
  have HT := Lib.hid (takes_int32 x g p N v w h.blk hl hh)
  have HS := Lib.hid h
  by_cases c : 0 ≤ x ∧ x < N
  · obtain ⟨X, rfl⟩ : ∃ X : Nat, x = X := ⟨x.toNat, by omega⟩
    have HH := Lib.hid (holds_int32 X B g p N v l w h (by omega))
    rw [decide_eq_true c] at HT
    by_cases hm : (X : Int) ∈ l
    · rw [decide_eq_true hm] at HH
      clear h
      go_enter Try.func17, Try.ntmps17
      go_wp2_with (first | (go_at_call 38; refine HT.out.mono ?_; rintro e1 w1 ⟨rfl, rfl⟩) | (go_at_call 39; refine HH.out.mono ?_; rintro e2 w2 ⟨rfl, rfl⟩))
      go_ret
      exact ⟨v, ret_bool (fresh_there hm).symm, by rw [put_no (fresh_there hm)]; exact HS.out, Chg.refl _ _, Grew.refl _ _⟩
    · have HF := Lib.hid (show fresh N l (X : Int) = true from fresh_iff.2 ⟨c.1, c.2, hm⟩)
      rw [decide_eq_false hm] at HH
      obtain ⟨i0, hi, hz0, hz1, hz2⟩ := info_parts infoI32
      have c0 := h.c0
      have c1 := h.c1
      obtain ⟨y, _, cp, fp, _⟩ := h.place (X := X) (by omega)
      have hless := h.less HF.out
      have hsm := h.sm
      have hgp := h.gp
      have hbase : B ≤ w.heap.size := by have := (h.hers (.inl rfl)); omega
      obtain ⟨n, hn⟩ : ∃ n, n = l.length := ⟨_, rfl⟩
      have hnN : n < N := by omega
      have ew : IntKind.u16.wrap (n : Int) = n := by rw [IntKind.wrap_u16]; omega
      have hXN : (X : Int) < N := by omega
      obtain ⟨A, ca, hv, _, _, _⟩ := own_form h.own
      rw [← hn] at hv
      subst hv
      have HN := Lib.hid hn
      have HO := Lib.hid h.own
      have hplt := h.plt
      have hglt := h.blk.lt
      obtain ⟨w1, hw1⟩ : ∃ w1, w1 = w.setCell ⟨p, X, none⟩ (.int .u16 (n : Int)) := ⟨_, rfl⟩
      have hO1 : w1.ownsRow B 21 1 (.slice A n ca) n (ks .i32 l) := by
        have := own_set h.own h.nep (o := X) (.int .u16 (n : Int))
        rw [← hw1, ← hn] at this
        exact this
      have d0 : w1.cell? ⟨g, 0, none⟩ = some (.slice A n ca) := by rw [hw1, World.cell?_setCell_other _ _ _ _ (fun e => hgp (congrArg Addr.block e).symm)]; exact c0
      have hs1 : w1.heap.size = w.heap.size := by rw [hw1]; simp [World.setCell]
      have HO1 := Lib.hid hO1
      have HW1 := Lib.hid hw1
      have HBS := Lib.hid hbase
      have HS1 := Lib.hid hs1
      clear h hO1 hn hm hless hplt hbase hw1 hs1
      go_enter Try.func17, Try.ntmps17
      go_wp2_with (first | (go_at_call 38; refine HT.out.mono ?_; rintro e1 w1 ⟨rfl, rfl⟩) | (go_at_call 39; refine HH.out.mono ?_; rintro e2 w2 ⟨rfl, rfl⟩))
      go_region
      all_goals rw [← HW1.out]
      all_goals go_wp2_with (at_builtin; refine wpList_append_rd _ rfl (.tmp 30) (.tmp 32) _ rfl B 21 i0 _ 1 4 Try.underlying50 hi hz0 hz1 hz2 rfl (by decide) (.slice A n ca) n (ks .i32 l) rfl (own_below HO1.out (by first | exact ((Below.refl _ _).alloc (Nat.le_refl _) _).drew | exact ((Below.refl _ _).alloc (Nat.le_refl _) _) | exact ((Below.refl _ _).drew.alloc (Nat.le_refl _) _))) _ (some ⟨w1.heap.size, 0, none⟩) 1 1 [.int .i32 X] rfl rfl (rd_new _ _ [.int .i32 X] _ rfl) (ks_one .i32 [(X : Int)]) (by unfold maxLen; omega) (by omega) (by have := HBS.out; have := HS1.out; simp; omega) ?_; intro v6 w6 hown6 hgr6 hat6; obtain ⟨k1, k2, k3, c6, f6⟩ := HS.out.snoc HN.out HF.out HW1.out (by first | exact ((Below.refl _ _).alloc (Nat.le_refl _) _).drew | exact ((Below.refl _ _).alloc (Nat.le_refl _) _) | exact ((Below.refl _ _).drew.alloc (Nat.le_refl _) _)) hown6 hgr6 hat6; obtain ⟨A6, ca6, hv6, _, _, _⟩ := own_form hown6; subst hv6; have K1 := Lib.hid k1; have K2 := Lib.hid k2; have K3 := Lib.hid k3; clear k1 k2 k3 hown6 hgr6 hat6)
      all_goals go_ret
      all_goals exact ⟨_, ret_bool HF.out.symm, K1.out, K2.out, K3.out⟩
  · rw [decide_eq_false c] at HT
    clear h
    go_enter Try.func17, Try.ntmps17
    go_wp2_with (first | (go_at_call 38; refine HT.out.mono ?_; rintro e1 w1 ⟨rfl, rfl⟩))
    go_ret
    exact ⟨v, ret_bool (fresh_out c).symm, by rw [put_no (fresh_out c)]; exact HS.out, Chg.refl _ _, Grew.refl _ _⟩

set_option maxHeartbeats 4000000 in
theorem add_int (x : Int) (B g p N : Nat) (v : Value) (l : List Int) (w : World) (h : Ss 70 3 .i64 w B g p v N l) (hl : -9223372036854775808 ≤ x) (hh : x ≤ 9223372036854775807) :
    Calls Try.prog 18 #[.pointer (some ⟨g, 0, none⟩), .int .i64 x] w (Adds 70 3 .i64 w B g p v N l x) := by
  have HT := Lib.hid (takes_int x g p N v w h.blk hl hh)
  have HS := Lib.hid h
  by_cases c : 0 ≤ x ∧ x < N
  · obtain ⟨X, rfl⟩ : ∃ X : Nat, x = X := ⟨x.toNat, by omega⟩
    have HH := Lib.hid (holds_int X B g p N v l w h (by omega))
    rw [decide_eq_true c] at HT
    by_cases hm : (X : Int) ∈ l
    · rw [decide_eq_true hm] at HH
      clear h
      go_enter Try.func18, Try.ntmps18
      go_wp2_with (first | (go_at_call 40; refine HT.out.mono ?_; rintro e1 w1 ⟨rfl, rfl⟩) | (go_at_call 41; refine HH.out.mono ?_; rintro e2 w2 ⟨rfl, rfl⟩))
      go_ret
      exact ⟨v, ret_bool (fresh_there hm).symm, by rw [put_no (fresh_there hm)]; exact HS.out, Chg.refl _ _, Grew.refl _ _⟩
    · have HF := Lib.hid (show fresh N l (X : Int) = true from fresh_iff.2 ⟨c.1, c.2, hm⟩)
      rw [decide_eq_false hm] at HH
      obtain ⟨i0, hi, hz0, hz1, hz2⟩ := info_parts infoInt
      have c0 := h.c0
      have c1 := h.c1
      obtain ⟨y, _, cp, fp, _⟩ := h.place (X := X) (by omega)
      have hless := h.less HF.out
      have hsm := h.sm
      have hgp := h.gp
      have hbase : B ≤ w.heap.size := by have := (h.hers (.inl rfl)); omega
      obtain ⟨n, hn⟩ : ∃ n, n = l.length := ⟨_, rfl⟩
      have hnN : n < N := by omega
      have ew : IntKind.u16.wrap (n : Int) = n := by rw [IntKind.wrap_u16]; omega
      have hXN : (X : Int) < N := by omega
      obtain ⟨A, ca, hv, _, _, _⟩ := own_form h.own
      rw [← hn] at hv
      subst hv
      have HN := Lib.hid hn
      have HO := Lib.hid h.own
      have hplt := h.plt
      have hglt := h.blk.lt
      obtain ⟨w1, hw1⟩ : ∃ w1, w1 = w.setCell ⟨p, X, none⟩ (.int .u16 (n : Int)) := ⟨_, rfl⟩
      have hO1 : w1.ownsRow B 3 1 (.slice A n ca) n (ks .i64 l) := by
        have := own_set h.own h.nep (o := X) (.int .u16 (n : Int))
        rw [← hw1, ← hn] at this
        exact this
      have d0 : w1.cell? ⟨g, 0, none⟩ = some (.slice A n ca) := by rw [hw1, World.cell?_setCell_other _ _ _ _ (fun e => hgp (congrArg Addr.block e).symm)]; exact c0
      have hs1 : w1.heap.size = w.heap.size := by rw [hw1]; simp [World.setCell]
      have HO1 := Lib.hid hO1
      have HW1 := Lib.hid hw1
      have HBS := Lib.hid hbase
      have HS1 := Lib.hid hs1
      clear h hO1 hn hm hless hplt hbase hw1 hs1
      go_enter Try.func18, Try.ntmps18
      go_wp2_with (first | (go_at_call 40; refine HT.out.mono ?_; rintro e1 w1 ⟨rfl, rfl⟩) | (go_at_call 41; refine HH.out.mono ?_; rintro e2 w2 ⟨rfl, rfl⟩))
      go_region
      all_goals rw [← HW1.out]
      all_goals go_wp2_with (at_builtin; refine wpList_append_rd _ rfl (.tmp 30) (.tmp 32) _ rfl B 3 i0 _ 1 8 Try.underlying24 hi hz0 hz1 hz2 rfl (by decide) (.slice A n ca) n (ks .i64 l) rfl (own_below HO1.out (by first | exact ((Below.refl _ _).alloc (Nat.le_refl _) _).drew | exact ((Below.refl _ _).alloc (Nat.le_refl _) _) | exact ((Below.refl _ _).drew.alloc (Nat.le_refl _) _))) _ (some ⟨w1.heap.size, 0, none⟩) 1 1 [.int .i64 X] rfl rfl (rd_new _ _ [.int .i64 X] _ rfl) (ks_one .i64 [(X : Int)]) (by unfold maxLen; omega) (by omega) (by have := HBS.out; have := HS1.out; simp; omega) ?_; intro v6 w6 hown6 hgr6 hat6; obtain ⟨k1, k2, k3, c6, f6⟩ := HS.out.snoc HN.out HF.out HW1.out (by first | exact ((Below.refl _ _).alloc (Nat.le_refl _) _).drew | exact ((Below.refl _ _).alloc (Nat.le_refl _) _) | exact ((Below.refl _ _).drew.alloc (Nat.le_refl _) _)) hown6 hgr6 hat6; obtain ⟨A6, ca6, hv6, _, _, _⟩ := own_form hown6; subst hv6; have K1 := Lib.hid k1; have K2 := Lib.hid k2; have K3 := Lib.hid k3; clear k1 k2 k3 hown6 hgr6 hat6)
      all_goals go_ret
      all_goals exact ⟨_, ret_bool HF.out.symm, K1.out, K2.out, K3.out⟩
  · rw [decide_eq_false c] at HT
    clear h
    go_enter Try.func18, Try.ntmps18
    go_wp2_with (first | (go_at_call 40; refine HT.out.mono ?_; rintro e1 w1 ⟨rfl, rfl⟩))
    go_ret
    exact ⟨v, ret_bool (fresh_out c).symm, by rw [put_no (fresh_out c)]; exact HS.out, Chg.refl _ _, Grew.refl _ _⟩

end Go.Proofs.Ytckdjbonplpknaa.Sparse
