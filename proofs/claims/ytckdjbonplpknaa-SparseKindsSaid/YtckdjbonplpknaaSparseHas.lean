/-
  CONTRACTS OF holds, Has, OF EACH KIND.
-/
import Derived.Test.YtckdjbonplpknaaSparseNew
namespace Go.Proofs.Ytckdjbonplpknaa.Sparse
open Go.RowKit Mem
set_option maxRecDepth 100000

set_option maxHeartbeats 2000000 in
theorem holds_uint8 (X B g p N : Nat) (v : Value) (l : List Int) (w : World) (h : Ss 64 5 .u8 w B g p v N l) (hX : X < N) :
    Calls Try.prog 35 #[.pointer (some ⟨g, 0, none⟩), .int .u8 X] w (Tells w (.bool (decide ((X : Int) ∈ l)))) := by
  obtain ⟨y, hy, cp, _, hiff⟩ := h.place hX
  have c0 := h.c0
  have c1 := h.c1
  obtain ⟨A, c, rfl, _, _, hr⟩ := own_form h.own
  have ew : IntKind.i64.wrap (y : Int) = y := IntWalk.i64_in _ (by omega)
  have hXN : (X : Int) < N := by omega
  obtain ⟨n, hn⟩ : ∃ n, n = l.length := ⟨_, rfl⟩
  rw [← hn] at c0
  by_cases hlt : y < l.length
  · obtain ⟨b, o, rfl, _⟩ := rd_form hr (by omega)
    have cy := rd_k hr hlt
    obtain ⟨z, hz⟩ : ∃ z, z = l[y] := ⟨_, rfl⟩
    rw [← hz] at cy
    have hyn : (y : Int) < n := by omega
    have d1 : decide ((y : Int) < (n : Int)) = true := decide_eq_true hyn
    by_cases e : z = X
    · have e1 : decide ((X : Int) ∈ l) = true := decide_eq_true (hiff.2 ⟨hlt, by omega⟩)
      rw [e1]
      subst e
      have e2 : (((X : Int)) == ((X : Int))) = true := by simp
      clear h hr hiff hz hn hlt
      go_enter Try.func35, Try.ntmps35
      go_wp2
      go_ret
      exact ⟨rfl, rfl⟩
    · have e1 : decide ((X : Int) ∈ l) = false := decide_eq_false fun hm => e (by obtain ⟨_, h2⟩ := hiff.1 hm; omega)
      rw [e1]
      have e2 : (z == (X : Int)) = false := by simpa using e
      clear h hr hiff hz hn hlt
      go_enter Try.func35, Try.ntmps35
      go_wp2
      go_ret
      exact ⟨rfl, rfl⟩
  · have e1 : decide ((X : Int) ∈ l) = false := decide_eq_false fun hm => hlt (by obtain ⟨h2, _⟩ := hiff.1 hm; exact h2)
    rw [e1]
    have d0 : ¬ (y : Int) < n := by omega
    have d1 : decide ((y : Int) < (n : Int)) = false := decide_eq_false d0
    clear h hr hiff hn hlt
    go_enter Try.func35, Try.ntmps35
    go_wp2
    go_ret
    exact ⟨rfl, rfl⟩

set_option maxHeartbeats 2000000 in
theorem has_uint8 (x : Int) (B g p N : Nat) (v : Value) (l : List Int) (w : World) (h : Ss 64 5 .u8 w B g p v N l) (hl : 0 ≤ x) (hh : x ≤ 255) :
    Calls Try.prog 19 #[.pointer (some ⟨g, 0, none⟩), .int .u8 x] w (Tells w (.bool (decide (x ∈ l)))) := by
  have HT := Lib.hid (takes_uint8 x g p N v w h.blk hl hh)
  by_cases c : 0 ≤ x ∧ x < N
  · obtain ⟨X, rfl⟩ : ∃ X : Nat, x = X := ⟨x.toNat, by omega⟩
    have HH := Lib.hid (holds_uint8 X B g p N v l w h (by omega))
    rw [decide_eq_true c] at HT
    clear h
    obtain ⟨b, hb⟩ : ∃ b, b = decide ((X : Int) ∈ l) := ⟨_, rfl⟩
    rw [← hb] at HH ⊢
    clear hb
    go_enter Try.func19, Try.ntmps19
    go_wp2_with (first | (go_at_call 34; refine HT.out.mono ?_; rintro e1 w1 ⟨rfl, rfl⟩) | (go_at_call 35; refine HH.out.mono ?_; rintro e2 w2 ⟨rfl, rfl⟩))
    go_ret
    exact ⟨rfl, rfl⟩
  · rw [decide_eq_false c] at HT
    rw [decide_eq_false fun hm => c (h.inn x hm)]
    clear h
    go_enter Try.func19, Try.ntmps19
    go_wp2_with (first | (go_at_call 34; refine HT.out.mono ?_; rintro e1 w1 ⟨rfl, rfl⟩))
    go_ret
    exact ⟨rfl, rfl⟩

set_option maxHeartbeats 2000000 in
theorem holds_uint16 (X B g p N : Nat) (v : Value) (l : List Int) (w : World) (h : Ss 66 38 .u16 w B g p v N l) (hX : X < N) :
    Calls Try.prog 37 #[.pointer (some ⟨g, 0, none⟩), .int .u16 X] w (Tells w (.bool (decide ((X : Int) ∈ l)))) := by
  obtain ⟨y, hy, cp, _, hiff⟩ := h.place hX
  have c0 := h.c0
  have c1 := h.c1
  obtain ⟨A, c, rfl, _, _, hr⟩ := own_form h.own
  have ew : IntKind.i64.wrap (y : Int) = y := IntWalk.i64_in _ (by omega)
  have hXN : (X : Int) < N := by omega
  obtain ⟨n, hn⟩ : ∃ n, n = l.length := ⟨_, rfl⟩
  rw [← hn] at c0
  by_cases hlt : y < l.length
  · obtain ⟨b, o, rfl, _⟩ := rd_form hr (by omega)
    have cy := rd_k hr hlt
    obtain ⟨z, hz⟩ : ∃ z, z = l[y] := ⟨_, rfl⟩
    rw [← hz] at cy
    have hyn : (y : Int) < n := by omega
    have d1 : decide ((y : Int) < (n : Int)) = true := decide_eq_true hyn
    by_cases e : z = X
    · have e1 : decide ((X : Int) ∈ l) = true := decide_eq_true (hiff.2 ⟨hlt, by omega⟩)
      rw [e1]
      subst e
      have e2 : (((X : Int)) == ((X : Int))) = true := by simp
      clear h hr hiff hz hn hlt
      go_enter Try.func37, Try.ntmps37
      go_wp2
      go_ret
      exact ⟨rfl, rfl⟩
    · have e1 : decide ((X : Int) ∈ l) = false := decide_eq_false fun hm => e (by obtain ⟨_, h2⟩ := hiff.1 hm; omega)
      rw [e1]
      have e2 : (z == (X : Int)) = false := by simpa using e
      clear h hr hiff hz hn hlt
      go_enter Try.func37, Try.ntmps37
      go_wp2
      go_ret
      exact ⟨rfl, rfl⟩
  · have e1 : decide ((X : Int) ∈ l) = false := decide_eq_false fun hm => hlt (by obtain ⟨h2, _⟩ := hiff.1 hm; exact h2)
    rw [e1]
    have d0 : ¬ (y : Int) < n := by omega
    have d1 : decide ((y : Int) < (n : Int)) = false := decide_eq_false d0
    clear h hr hiff hn hlt
    go_enter Try.func37, Try.ntmps37
    go_wp2
    go_ret
    exact ⟨rfl, rfl⟩

set_option maxHeartbeats 2000000 in
theorem has_uint16 (x : Int) (B g p N : Nat) (v : Value) (l : List Int) (w : World) (h : Ss 66 38 .u16 w B g p v N l) (hl : 0 ≤ x) (hh : x ≤ 65535) :
    Calls Try.prog 20 #[.pointer (some ⟨g, 0, none⟩), .int .u16 x] w (Tells w (.bool (decide (x ∈ l)))) := by
  have HT := Lib.hid (takes_uint16 x g p N v w h.blk hl hh)
  by_cases c : 0 ≤ x ∧ x < N
  · obtain ⟨X, rfl⟩ : ∃ X : Nat, x = X := ⟨x.toNat, by omega⟩
    have HH := Lib.hid (holds_uint16 X B g p N v l w h (by omega))
    rw [decide_eq_true c] at HT
    clear h
    obtain ⟨b, hb⟩ : ∃ b, b = decide ((X : Int) ∈ l) := ⟨_, rfl⟩
    rw [← hb] at HH ⊢
    clear hb
    go_enter Try.func20, Try.ntmps20
    go_wp2_with (first | (go_at_call 36; refine HT.out.mono ?_; rintro e1 w1 ⟨rfl, rfl⟩) | (go_at_call 37; refine HH.out.mono ?_; rintro e2 w2 ⟨rfl, rfl⟩))
    go_ret
    exact ⟨rfl, rfl⟩
  · rw [decide_eq_false c] at HT
    rw [decide_eq_false fun hm => c (h.inn x hm)]
    clear h
    go_enter Try.func20, Try.ntmps20
    go_wp2_with (first | (go_at_call 36; refine HT.out.mono ?_; rintro e1 w1 ⟨rfl, rfl⟩))
    go_ret
    exact ⟨rfl, rfl⟩

set_option maxHeartbeats 2000000 in
theorem holds_int32 (X B g p N : Nat) (v : Value) (l : List Int) (w : World) (h : Ss 68 21 .i32 w B g p v N l) (hX : X < N) :
    Calls Try.prog 39 #[.pointer (some ⟨g, 0, none⟩), .int .i32 X] w (Tells w (.bool (decide ((X : Int) ∈ l)))) := by
  obtain ⟨y, hy, cp, _, hiff⟩ := h.place hX
  have c0 := h.c0
  have c1 := h.c1
  obtain ⟨A, c, rfl, _, _, hr⟩ := own_form h.own
  have ew : IntKind.i64.wrap (y : Int) = y := IntWalk.i64_in _ (by omega)
  have hXN : (X : Int) < N := by omega
  obtain ⟨n, hn⟩ : ∃ n, n = l.length := ⟨_, rfl⟩
  rw [← hn] at c0
  by_cases hlt : y < l.length
  · obtain ⟨b, o, rfl, _⟩ := rd_form hr (by omega)
    have cy := rd_k hr hlt
    obtain ⟨z, hz⟩ : ∃ z, z = l[y] := ⟨_, rfl⟩
    rw [← hz] at cy
    have hyn : (y : Int) < n := by omega
    have d1 : decide ((y : Int) < (n : Int)) = true := decide_eq_true hyn
    by_cases e : z = X
    · have e1 : decide ((X : Int) ∈ l) = true := decide_eq_true (hiff.2 ⟨hlt, by omega⟩)
      rw [e1]
      subst e
      have e2 : (((X : Int)) == ((X : Int))) = true := by simp
      clear h hr hiff hz hn hlt
      go_enter Try.func39, Try.ntmps39
      go_wp2
      go_ret
      exact ⟨rfl, rfl⟩
    · have e1 : decide ((X : Int) ∈ l) = false := decide_eq_false fun hm => e (by obtain ⟨_, h2⟩ := hiff.1 hm; omega)
      rw [e1]
      have e2 : (z == (X : Int)) = false := by simpa using e
      clear h hr hiff hz hn hlt
      go_enter Try.func39, Try.ntmps39
      go_wp2
      go_ret
      exact ⟨rfl, rfl⟩
  · have e1 : decide ((X : Int) ∈ l) = false := decide_eq_false fun hm => hlt (by obtain ⟨h2, _⟩ := hiff.1 hm; exact h2)
    rw [e1]
    have d0 : ¬ (y : Int) < n := by omega
    have d1 : decide ((y : Int) < (n : Int)) = false := decide_eq_false d0
    clear h hr hiff hn hlt
    go_enter Try.func39, Try.ntmps39
    go_wp2
    go_ret
    exact ⟨rfl, rfl⟩

set_option maxHeartbeats 2000000 in
theorem has_int32 (x : Int) (B g p N : Nat) (v : Value) (l : List Int) (w : World) (h : Ss 68 21 .i32 w B g p v N l) (hl : -2147483648 ≤ x) (hh : x ≤ 2147483647) :
    Calls Try.prog 21 #[.pointer (some ⟨g, 0, none⟩), .int .i32 x] w (Tells w (.bool (decide (x ∈ l)))) := by
  have HT := Lib.hid (takes_int32 x g p N v w h.blk hl hh)
  by_cases c : 0 ≤ x ∧ x < N
  · obtain ⟨X, rfl⟩ : ∃ X : Nat, x = X := ⟨x.toNat, by omega⟩
    have HH := Lib.hid (holds_int32 X B g p N v l w h (by omega))
    rw [decide_eq_true c] at HT
    clear h
    obtain ⟨b, hb⟩ : ∃ b, b = decide ((X : Int) ∈ l) := ⟨_, rfl⟩
    rw [← hb] at HH ⊢
    clear hb
    go_enter Try.func21, Try.ntmps21
    go_wp2_with (first | (go_at_call 38; refine HT.out.mono ?_; rintro e1 w1 ⟨rfl, rfl⟩) | (go_at_call 39; refine HH.out.mono ?_; rintro e2 w2 ⟨rfl, rfl⟩))
    go_ret
    exact ⟨rfl, rfl⟩
  · rw [decide_eq_false c] at HT
    rw [decide_eq_false fun hm => c (h.inn x hm)]
    clear h
    go_enter Try.func21, Try.ntmps21
    go_wp2_with (first | (go_at_call 38; refine HT.out.mono ?_; rintro e1 w1 ⟨rfl, rfl⟩))
    go_ret
    exact ⟨rfl, rfl⟩

set_option maxHeartbeats 2000000 in
theorem holds_int (X B g p N : Nat) (v : Value) (l : List Int) (w : World) (h : Ss 70 3 .i64 w B g p v N l) (hX : X < N) :
    Calls Try.prog 41 #[.pointer (some ⟨g, 0, none⟩), .int .i64 X] w (Tells w (.bool (decide ((X : Int) ∈ l)))) := by
  obtain ⟨y, hy, cp, _, hiff⟩ := h.place hX
  have c0 := h.c0
  have c1 := h.c1
  obtain ⟨A, c, rfl, _, _, hr⟩ := own_form h.own
  have ew : IntKind.i64.wrap (y : Int) = y := IntWalk.i64_in _ (by omega)
  have hXN : (X : Int) < N := by omega
  obtain ⟨n, hn⟩ : ∃ n, n = l.length := ⟨_, rfl⟩
  rw [← hn] at c0
  by_cases hlt : y < l.length
  · obtain ⟨b, o, rfl, _⟩ := rd_form hr (by omega)
    have cy := rd_k hr hlt
    obtain ⟨z, hz⟩ : ∃ z, z = l[y] := ⟨_, rfl⟩
    rw [← hz] at cy
    have hyn : (y : Int) < n := by omega
    have d1 : decide ((y : Int) < (n : Int)) = true := decide_eq_true hyn
    by_cases e : z = X
    · have e1 : decide ((X : Int) ∈ l) = true := decide_eq_true (hiff.2 ⟨hlt, by omega⟩)
      rw [e1]
      subst e
      have e2 : (((X : Int)) == ((X : Int))) = true := by simp
      clear h hr hiff hz hn hlt
      go_enter Try.func41, Try.ntmps41
      go_wp2
      go_ret
      exact ⟨rfl, rfl⟩
    · have e1 : decide ((X : Int) ∈ l) = false := decide_eq_false fun hm => e (by obtain ⟨_, h2⟩ := hiff.1 hm; omega)
      rw [e1]
      have e2 : (z == (X : Int)) = false := by simpa using e
      clear h hr hiff hz hn hlt
      go_enter Try.func41, Try.ntmps41
      go_wp2
      go_ret
      exact ⟨rfl, rfl⟩
  · have e1 : decide ((X : Int) ∈ l) = false := decide_eq_false fun hm => hlt (by obtain ⟨h2, _⟩ := hiff.1 hm; exact h2)
    rw [e1]
    have d0 : ¬ (y : Int) < n := by omega
    have d1 : decide ((y : Int) < (n : Int)) = false := decide_eq_false d0
    clear h hr hiff hn hlt
    go_enter Try.func41, Try.ntmps41
    go_wp2
    go_ret
    exact ⟨rfl, rfl⟩

set_option maxHeartbeats 2000000 in
theorem has_int (x : Int) (B g p N : Nat) (v : Value) (l : List Int) (w : World) (h : Ss 70 3 .i64 w B g p v N l) (hl : -9223372036854775808 ≤ x) (hh : x ≤ 9223372036854775807) :
    Calls Try.prog 22 #[.pointer (some ⟨g, 0, none⟩), .int .i64 x] w (Tells w (.bool (decide (x ∈ l)))) := by
  have HT := Lib.hid (takes_int x g p N v w h.blk hl hh)
  by_cases c : 0 ≤ x ∧ x < N
  · obtain ⟨X, rfl⟩ : ∃ X : Nat, x = X := ⟨x.toNat, by omega⟩
    have HH := Lib.hid (holds_int X B g p N v l w h (by omega))
    rw [decide_eq_true c] at HT
    clear h
    obtain ⟨b, hb⟩ : ∃ b, b = decide ((X : Int) ∈ l) := ⟨_, rfl⟩
    rw [← hb] at HH ⊢
    clear hb
    go_enter Try.func22, Try.ntmps22
    go_wp2_with (first | (go_at_call 40; refine HT.out.mono ?_; rintro e1 w1 ⟨rfl, rfl⟩) | (go_at_call 41; refine HH.out.mono ?_; rintro e2 w2 ⟨rfl, rfl⟩))
    go_ret
    exact ⟨rfl, rfl⟩
  · rw [decide_eq_false c] at HT
    rw [decide_eq_false fun hm => c (h.inn x hm)]
    clear h
    go_enter Try.func22, Try.ntmps22
    go_wp2_with (first | (go_at_call 40; refine HT.out.mono ?_; rintro e1 w1 ⟨rfl, rfl⟩))
    go_ret
    exact ⟨rfl, rfl⟩

end Go.Proofs.Ytckdjbonplpknaa.Sparse
