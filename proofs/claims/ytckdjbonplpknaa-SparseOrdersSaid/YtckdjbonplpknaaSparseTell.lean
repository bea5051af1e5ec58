/-
  CONTRACTS OF Values, Len, At, Clear; A SET THAT IS nil.
-/
import Derived.Test.YtckdjbonplpknaaSparseAdd
namespace Go.Proofs.Ytckdjbonplpknaa.Sparse
open Go.RowKit Mem
set_option maxRecDepth 100000

/-- the one that came i-th -/
def nth (l : List Int) (i : Int) : Option Int := if i < 0 then none else l[i.toNat]?
theorem nth_neg {l : List Int} {i : Int} (h : i < 0) : nth l i = none := if_pos h
theorem nth_at {l : List Int} {i : Nat} (h : i < l.length) : nth l i = some l[i] := by unfold nth; rw [if_neg (by omega), Int.toNat_natCast, List.getElem?_eq_getElem h]
theorem nth_past {l : List Int} {i : Nat} (h : ¬ i < l.length) : nth l i = none := by unfold nth; rw [if_neg (by omega), Int.toNat_natCast, List.getElem?_eq_none (by omega)]

set_option maxHeartbeats 2000000 in
theorem values_uint8 (B g p N : Nat) (v : Value) (l : List Int) (w : World) (h : Ss 64 5 .u8 w B g p v N l) :
    Calls Try.prog 23 #[.pointer (some ⟨g, 0, none⟩)] w (OwnK w .u8 5 l) := by
  obtain ⟨i0, hi, hz0, hz1, hz2⟩ := info_parts infoU8
  have c0 := h.c0
  have hfew := h.few
  have hsm := h.sm
  obtain ⟨A, ca, hv, _, _, hr⟩ := own_form h.own
  subst hv
  have HR := Lib.hid hr
  obtain ⟨n, hn⟩ : ∃ n, n = l.length := ⟨_, rfl⟩
  rw [← hn] at c0 hfew
  have HN := Lib.hid hn
  clear h hr hn
  go_enter Try.func23, Try.ntmps23
  go_wp2_with (at_builtin; refine wpList_append_rd _ rfl (.const (.slice none 0 0)) (.tmp 8) _ rfl w.heap.size 5 i0 _ 1 1 Try.underlying33 hi hz0 hz1 hz2 rfl (by decide) (.slice none 0 0) 0 [] rfl (World.ownsRow_nil _ _ _ _) _ A n ca (ks .u8 l) rfl (by rw [ks_len, HN.out]; omega) HR.out (ks_one .u8 l) (by unfold maxLen; omega) (by omega) (Nat.le_refl _) ?_; intro v6 w6 hown6 hgr6 _; have HO6 := Lib.hid hown6; have HG6 := Lib.hid hgr6; clear hown6 hgr6)
  go_ret
  have ho := HO6.out
  rw [Nat.zero_add, List.nil_append, HN.out] at ho
  exact ⟨v6, rfl, ho, below_grown HG6.out⟩

set_option maxHeartbeats 2000000 in
theorem values_uint16 (B g p N : Nat) (v : Value) (l : List Int) (w : World) (h : Ss 66 38 .u16 w B g p v N l) :
    Calls Try.prog 24 #[.pointer (some ⟨g, 0, none⟩)] w (OwnK w .u16 38 l) := by
  obtain ⟨i0, hi, hz0, hz1, hz2⟩ := info_parts infoU16
  have c0 := h.c0
  have hfew := h.few
  have hsm := h.sm
  obtain ⟨A, ca, hv, _, _, hr⟩ := own_form h.own
  subst hv
  have HR := Lib.hid hr
  obtain ⟨n, hn⟩ : ∃ n, n = l.length := ⟨_, rfl⟩
  rw [← hn] at c0 hfew
  have HN := Lib.hid hn
  clear h hr hn
  go_enter Try.func24, Try.ntmps24
  go_wp2_with (at_builtin; refine wpList_append_rd _ rfl (.const (.slice none 0 0)) (.tmp 8) _ rfl w.heap.size 38 i0 _ 1 2 Try.underlying48 hi hz0 hz1 hz2 rfl (by decide) (.slice none 0 0) 0 [] rfl (World.ownsRow_nil _ _ _ _) _ A n ca (ks .u16 l) rfl (by rw [ks_len, HN.out]; omega) HR.out (ks_one .u16 l) (by unfold maxLen; omega) (by omega) (Nat.le_refl _) ?_; intro v6 w6 hown6 hgr6 _; have HO6 := Lib.hid hown6; have HG6 := Lib.hid hgr6; clear hown6 hgr6)
  go_ret
  have ho := HO6.out
  rw [Nat.zero_add, List.nil_append, HN.out] at ho
  exact ⟨v6, rfl, ho, below_grown HG6.out⟩

set_option maxHeartbeats 2000000 in
theorem values_int32 (B g p N : Nat) (v : Value) (l : List Int) (w : World) (h : Ss 68 21 .i32 w B g p v N l) :
    Calls Try.prog 25 #[.pointer (some ⟨g, 0, none⟩)] w (OwnK w .i32 21 l) := by
  obtain ⟨i0, hi, hz0, hz1, hz2⟩ := info_parts infoI32
  have c0 := h.c0
  have hfew := h.few
  have hsm := h.sm
  obtain ⟨A, ca, hv, _, _, hr⟩ := own_form h.own
  subst hv
  have HR := Lib.hid hr
  obtain ⟨n, hn⟩ : ∃ n, n = l.length := ⟨_, rfl⟩
  rw [← hn] at c0 hfew
  have HN := Lib.hid hn
  clear h hr hn
  go_enter Try.func25, Try.ntmps25
  go_wp2_with (at_builtin; refine wpList_append_rd _ rfl (.const (.slice none 0 0)) (.tmp 8) _ rfl w.heap.size 21 i0 _ 1 4 Try.underlying50 hi hz0 hz1 hz2 rfl (by decide) (.slice none 0 0) 0 [] rfl (World.ownsRow_nil _ _ _ _) _ A n ca (ks .i32 l) rfl (by rw [ks_len, HN.out]; omega) HR.out (ks_one .i32 l) (by unfold maxLen; omega) (by omega) (Nat.le_refl _) ?_; intro v6 w6 hown6 hgr6 _; have HO6 := Lib.hid hown6; have HG6 := Lib.hid hgr6; clear hown6 hgr6)
  go_ret
  have ho := HO6.out
  rw [Nat.zero_add, List.nil_append, HN.out] at ho
  exact ⟨v6, rfl, ho, below_grown HG6.out⟩

set_option maxHeartbeats 2000000 in
theorem values_int (B g p N : Nat) (v : Value) (l : List Int) (w : World) (h : Ss 70 3 .i64 w B g p v N l) :
    Calls Try.prog 26 #[.pointer (some ⟨g, 0, none⟩)] w (OwnK w .i64 3 l) := by
  obtain ⟨i0, hi, hz0, hz1, hz2⟩ := info_parts infoInt
  have c0 := h.c0
  have hfew := h.few
  have hsm := h.sm
  obtain ⟨A, ca, hv, _, _, hr⟩ := own_form h.own
  subst hv
  have HR := Lib.hid hr
  obtain ⟨n, hn⟩ : ∃ n, n = l.length := ⟨_, rfl⟩
  rw [← hn] at c0 hfew
  have HN := Lib.hid hn
  clear h hr hn
  go_enter Try.func26, Try.ntmps26
  go_wp2_with (at_builtin; refine wpList_append_rd _ rfl (.const (.slice none 0 0)) (.tmp 8) _ rfl w.heap.size 3 i0 _ 1 8 Try.underlying24 hi hz0 hz1 hz2 rfl (by decide) (.slice none 0 0) 0 [] rfl (World.ownsRow_nil _ _ _ _) _ A n ca (ks .i64 l) rfl (by rw [ks_len, HN.out]; omega) HR.out (ks_one .i64 l) (by unfold maxLen; omega) (by omega) (Nat.le_refl _) ?_; intro v6 w6 hown6 hgr6 _; have HO6 := Lib.hid hown6; have HG6 := Lib.hid hgr6; clear hown6 hgr6)
  go_ret
  have ho := HO6.out
  rw [Nat.zero_add, List.nil_append, HN.out] at ho
  exact ⟨v6, rfl, ho, below_grown HG6.out⟩

set_option maxHeartbeats 2000000 in
theorem len_uint8 (B g p N : Nat) (v : Value) (l : List Int) (w : World) (h : Ss 64 5 .u8 w B g p v N l) :
    Calls Try.prog 27 #[.pointer (some ⟨g, 0, none⟩)] w (Tells w (.int .i64 (l.length : Int))) := by
  have c0 := h.c0
  obtain ⟨A, ca, hv, _, _, hr⟩ := own_form h.own
  subst hv
  clear h hr
  generalize l.length = n at c0 ⊢
  go_enter Try.func27, Try.ntmps27
  go_wp2
  go_ret
  exact ⟨rfl, rfl⟩

set_option maxHeartbeats 2000000 in
theorem at_uint8 (i : Int) (B g p N : Nat) (v : Value) (l : List Int) (w : World) (h : Ss 64 5 .u8 w B g p v N l) :
    Calls Try.prog 28 #[.pointer (some ⟨g, 0, none⟩), .int .i64 i] w (Tells w (.tuple #[.int .u8 ((nth l i).getD 0), .bool (nth l i).isSome])) := by
  have HL := Lib.hid (len_uint8 B g p N v l w h)
  by_cases c1 : i < 0
  · rw [nth_neg c1]
    have d1 : decide (i < 0) = true := decide_eq_true c1
    clear h
    go_enter Try.func28, Try.ntmps28
    go_wp2
    go_ret2
    exact ⟨rfl, rfl⟩
  · obtain ⟨I, rfl⟩ : ∃ I : Nat, i = I := ⟨i.toNat, by omega⟩
    by_cases c2 : I < l.length
    · have c0 := h.c0
      obtain ⟨A, ca, hv, _, _, hr⟩ := own_form h.own
      subst hv
      obtain ⟨b, o, rfl, _⟩ := rd_form hr (by omega)
      have cy := rd_k hr c2
      rw [nth_at c2]
      obtain ⟨z, hz⟩ : ∃ z, z = l[I] := ⟨_, rfl⟩
      rw [← hz] at cy ⊢
      obtain ⟨n, hn⟩ : ∃ n, n = l.length := ⟨_, rfl⟩
      rw [← hn] at c0 HL
      have e1 : (I : Int) < n := by omega
      have e2 : ¬ (n : Int) ≤ I := by omega
      have e3 : decide ((n : Int) ≤ (I : Int)) = false := decide_eq_false e2
      have e4 : decide ((I : Int) < 0) = false := decide_eq_false c1
      clear h hr hz hn c2
      go_enter Try.func28, Try.ntmps28
      go_wp2_with (go_at_call 27; refine HL.out.mono ?_; rintro e1 w1 ⟨rfl, rfl⟩)
      go_ret2
      exact ⟨rfl, rfl⟩
    · rw [nth_past c2]
      obtain ⟨n, hn⟩ : ∃ n, n = l.length := ⟨_, rfl⟩
      rw [← hn] at HL
      have e2 : (n : Int) ≤ I := by omega
      have e3 : decide ((n : Int) ≤ (I : Int)) = true := decide_eq_true e2
      have e4 : decide ((I : Int) < 0) = false := decide_eq_false c1
      clear h hn c2
      go_enter Try.func28, Try.ntmps28
      go_wp2_with (go_at_call 27; refine HL.out.mono ?_; rintro e1 w1 ⟨rfl, rfl⟩)
      go_ret2
      exact ⟨rfl, rfl⟩

set_option maxHeartbeats 2000000 in
theorem len_int (B g p N : Nat) (v : Value) (l : List Int) (w : World) (h : Ss 70 3 .i64 w B g p v N l) :
    Calls Try.prog 30 #[.pointer (some ⟨g, 0, none⟩)] w (Tells w (.int .i64 (l.length : Int))) := by
  have c0 := h.c0
  obtain ⟨A, ca, hv, _, _, hr⟩ := own_form h.own
  subst hv
  clear h hr
  generalize l.length = n at c0 ⊢
  go_enter Try.func30, Try.ntmps30
  go_wp2
  go_ret
  exact ⟨rfl, rfl⟩

set_option maxHeartbeats 2000000 in
theorem at_int (i : Int) (B g p N : Nat) (v : Value) (l : List Int) (w : World) (h : Ss 70 3 .i64 w B g p v N l) :
    Calls Try.prog 31 #[.pointer (some ⟨g, 0, none⟩), .int .i64 i] w (Tells w (.tuple #[.int .i64 ((nth l i).getD 0), .bool (nth l i).isSome])) := by
  have HL := Lib.hid (len_int B g p N v l w h)
  by_cases c1 : i < 0
  · rw [nth_neg c1]
    have d1 : decide (i < 0) = true := decide_eq_true c1
    clear h
    go_enter Try.func31, Try.ntmps31
    go_wp2
    go_ret2
    exact ⟨rfl, rfl⟩
  · obtain ⟨I, rfl⟩ : ∃ I : Nat, i = I := ⟨i.toNat, by omega⟩
    by_cases c2 : I < l.length
    · have c0 := h.c0
      obtain ⟨A, ca, hv, _, _, hr⟩ := own_form h.own
      subst hv
      obtain ⟨b, o, rfl, _⟩ := rd_form hr (by omega)
      have cy := rd_k hr c2
      rw [nth_at c2]
      obtain ⟨z, hz⟩ : ∃ z, z = l[I] := ⟨_, rfl⟩
      rw [← hz] at cy ⊢
      obtain ⟨n, hn⟩ : ∃ n, n = l.length := ⟨_, rfl⟩
      rw [← hn] at c0 HL
      have e1 : (I : Int) < n := by omega
      have e2 : ¬ (n : Int) ≤ I := by omega
      have e3 : decide ((n : Int) ≤ (I : Int)) = false := decide_eq_false e2
      have e4 : decide ((I : Int) < 0) = false := decide_eq_false c1
      clear h hr hz hn c2
      go_enter Try.func31, Try.ntmps31
      go_wp2_with (go_at_call 30; refine HL.out.mono ?_; rintro e1 w1 ⟨rfl, rfl⟩)
      go_ret2
      exact ⟨rfl, rfl⟩
    · rw [nth_past c2]
      obtain ⟨n, hn⟩ : ∃ n, n = l.length := ⟨_, rfl⟩
      rw [← hn] at HL
      have e2 : (n : Int) ≤ I := by omega
      have e3 : decide ((n : Int) ≤ (I : Int)) = true := decide_eq_true e2
      have e4 : decide ((I : Int) < 0) = false := decide_eq_false c1
      clear h hn c2
      go_enter Try.func31, Try.ntmps31
      go_wp2_with (go_at_call 30; refine HL.out.mono ?_; rintro e1 w1 ⟨rfl, rfl⟩)
      go_ret2
      exact ⟨rfl, rfl⟩

/-- what Clear leaves -/
def Wiped (T E : TypeId) (k : IntKind) (w : World) (B g p : Nat) (v : Value) (N : Nat) (e : Ending) (w' : World) : Prop :=
  ∃ u, e = .returned (.tuple #[]) ∧ Ss T E k w' B g p u N [] ∧ Chg w w' (Ft g p v) ∧ Grew w v u
theorem Ss.wiped {T E : TypeId} {k : IntKind} {w : World} {B g p N n ca : Nat} {A : Option Addr} {l : List Int} (h : Ss T E k w B g p (.slice A n ca) N l) :
    Ss T E k (w.setCell ⟨g, 0, none⟩ (.slice A 0 ca)) B g p (.slice A 0 ca) N [] ∧ Chg w (w.setCell ⟨g, 0, none⟩ (.slice A 0 ca)) (Ft g p (.slice A n ca)) ∧ Grew w (.slice A n ca) (.slice A 0 ca) := by
  obtain ⟨q, h1, h2, h3, h4⟩ := h.pl
  have ho : w.ownsRow B E 1 (.slice A 0 ca) 0 [] := by
    rcases h.own.2 with ⟨hv, _⟩ | ⟨g', cap, cur, hv, e1, e2, e3, e4, e5, e6⟩
    · injection hv with a1 a2 a3
      subst a1 a3
      exact World.ownsRow_nil _ _ _ _
    · injection hv with a1 a2 a3
      subst a1 a3
      exact ⟨rfl, .inr ⟨g', ca, cur, rfl, e1, e2, Nat.zero_le _, e4, e5, by simp⟩⟩
  have hb : (Value.slice A 0 ca).ownBlock = (Value.slice A n ca).ownBlock := by cases A <;> rfl
  refine ⟨⟨h.blk.set_ 0 _, own_set ho (by rw [hb]; exact h.neg) _, h.le, h.lep, h.sm, ⟨q, h1.far (Ne.symm h.gp) _, h2, h3, fun i h => by simp at h⟩, by rw [hb]; exact h.nep, by rw [hb]; exact h.neg, h.gp, List.nodup_nil, fun x hx => by simp at hx⟩, (Chg.refl w _).setCell (p := ⟨g, 0, none⟩) _ (.inl rfl), fun i hi => .inl (hb ▸ hi)⟩
set_option maxHeartbeats 2000000 in
theorem clear_int (B g p N : Nat) (v : Value) (l : List Int) (w : World) (h : Ss 70 3 .i64 w B g p v N l) :
    Calls Try.prog 29 #[.pointer (some ⟨g, 0, none⟩)] w (Wiped 70 3 .i64 w B g p v N) := by
  have c0 := h.c0
  have f0 := h.blk.frozen 0
  have ho := h.own.2
  obtain ⟨A, ca, hv, hle, _, hr⟩ := own_form h.own
  subst hv
  have HW := Lib.hid h.wiped
  clear h hr
  generalize l.length = n at c0 ho HW hle ⊢
  have hsl : ∀ u : World, (Instr.slice 24 (.slice A n ca) none (some (.int .i64 0)) none).run Try.prog u = .ok (.slice A 0 ca) u := fun u => by
    have he : Try.prog.elem 24 = 3 := by simp [Program.elem, Try.underlying24]
    rw [run_slice_h u 24 A n ca (by rw [he]; exact Try.underlying24) .i64 0 (by omega) (by omega), he, Try.sizeOf3]
    rcases ho with ⟨hv, _⟩ | ⟨g', cap, cur, hv, e1, e2, e3, e4, e5, e6⟩
    · injection hv with a1 a2 a3
      subst a1 a3
      simp [Result.andThen, sliced]
    · injection hv with a1 a2 a3
      subst a1 a3
      have hadd : (⟨g', 0, none⟩ : Addr).add 0 = ⟨g', 0, none⟩ := by unfold Addr.add; split <;> simp_all
      simp [Result.andThen, sliced, hadd]
  clear ho hle
  go_enter Try.func29, Try.ntmps29
  go_wp2
  go_end0
  exact ⟨_, rfl, HW.out.1, HW.out.2.1, HW.out.2.2⟩

theorem nil_takes (x : Int) (w : World) : Calls Try.prog 40 #[.pointer none, .int .i64 x] w (Tells w (.bool false)) := by
  go_enter Try.func40, Try.ntmps40
  go_wp2
  go_ret
  exact ⟨rfl, rfl⟩
theorem nil_Len (w : World) : Calls Try.prog 30 #[.pointer none] w (Tells w (.int .i64 0)) := by
  go_enter Try.func30, Try.ntmps30
  go_wp2
  go_ret
  exact ⟨rfl, rfl⟩
theorem nil_Clear (w : World) : Calls Try.prog 29 #[.pointer none] w (Tells w (.tuple #[])) := by
  go_enter Try.func29, Try.ntmps29
  go_wp2
  go_end0
  exact ⟨rfl, rfl⟩
theorem nil_Values (w : World) : Calls Try.prog 26 #[.pointer none] w (Tells w (.slice none 0 0)) := by
  go_enter Try.func26, Try.ntmps26
  go_wp2
  go_ret
  exact ⟨rfl, rfl⟩
theorem nil_Add (x : Int) (w : World) : Calls Try.prog 18 #[.pointer none, .int .i64 x] w (Tells w (.bool false)) := by
  have HT := Lib.hid (nil_takes x w)
  go_enter Try.func18, Try.ntmps18
  go_wp2_with (go_at_call 40; refine HT.out.mono ?_; rintro e1 w1 ⟨rfl, rfl⟩)
  go_ret
  exact ⟨rfl, rfl⟩
theorem nil_Has (x : Int) (w : World) : Calls Try.prog 22 #[.pointer none, .int .i64 x] w (Tells w (.bool false)) := by
  have HT := Lib.hid (nil_takes x w)
  go_enter Try.func22, Try.ntmps22
  go_wp2_with (go_at_call 40; refine HT.out.mono ?_; rintro e1 w1 ⟨rfl, rfl⟩)
  go_ret
  exact ⟨rfl, rfl⟩
theorem nil_At (w : World) : Calls Try.prog 31 #[.pointer none, .int .i64 0] w (Tells w (.tuple #[.int .i64 0, .bool false])) := by
  have HL := Lib.hid (nil_Len w)
  go_enter Try.func31, Try.ntmps31
  go_wp2_with (go_at_call 30; refine HL.out.mono ?_; rintro e1 w1 ⟨rfl, rfl⟩)
  go_ret2
  exact ⟨rfl, rfl⟩
end Go.Proofs.Ytckdjbonplpknaa.Sparse
