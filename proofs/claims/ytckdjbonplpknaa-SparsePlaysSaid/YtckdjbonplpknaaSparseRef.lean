/-
  CONTRACTS OF THE DOCUMENT'S OWN ANSWER: Has, Step.
-/
import Derived.Test.YtckdjbonplpknaaSparseMath
import Derived.Test.YtckdjbonplpknaaMemSame
namespace Go.Proofs.Ytckdjbonplpknaa.Sparse
open Go.RowKit Mem
set_option maxRecDepth 100000

set_option maxHeartbeats 2000000 in
theorem rhas_any (A : Option Addr) (l : List Int) (n c : Nat) (x : Int) (w : World) (hr : Rd w w.heap.size A (ks .i64 l)) (hn : l.length = n) (hn1 : n ≤ 4611686018427387904) :
    Calls Try.prog 33 #[.slice A n c, .int .i64 x] w (Tells w (.bool (decide (x ∈ l)))) := by
  suffices H : Calls Try.prog 33 #[.slice A n c, .int .i64 x] w (fun e w' => Hid (Tells w (.bool (decide (x ∈ l))) e w')) from H.mono fun e w' h => h.out
  have HN := Lib.hid hn
  clear hn
  go_enter Try.func33, Try.ntmps33
  go_wp2
  go_loopw [5] (fun i wr => ∃ k : Nat, k ≤ n ∧ i = .int .i64 k ∧ Hid (x ∉ l.take k) ∧ w = wr) (fun i _ => n - (intOf i).toNat)
  case atStart => exact ⟨0, Nat.zero_le _, rfl, Lib.hid (by simp), rfl⟩
  case round =>
    obtain ⟨k, hk, rfl, HT, rfl⟩ := hrel
    by_cases hlt : k < n
    · have hka : k < l.length := by rw [HN.out]; exact hlt
      obtain ⟨ba, oa, rfl, _⟩ := rd_form hr (by omega)
      have a1 := rd_k hr hka
      have HTS := Lib.hid (show ¬ l[k] = x → x ∉ l.take (k + 1) from fun h => by
        rw [List.take_succ_eq_append_getElem hka, List.mem_append]
        rintro (h1 | h1)
        · exact HT.out h1
        · exact h (List.mem_singleton.1 h1).symm)
      have HY := Lib.hid (show l[k] = x → x ∈ l from fun h => h ▸ List.getElem_mem hka)
      obtain ⟨z, hz⟩ : ∃ z, z = l[k] := ⟨_, rfl⟩
      rw [← hz] at a1 HTS HY
      clear hz HT
      by_cases e : z = x
      · subst e
        have e2 : (z == z) = true := by simp
        have HF := Lib.hid (HY.out rfl)
        go_wp2
        go_ret
        exact Lib.hid ⟨by rw [decide_eq_true HF.out]; rfl, rfl⟩
      · have e2 : (z == x) = false := by simpa using e
        have HF := Lib.hid (HTS.out e)
        clear e HTS HY
        go_wp2
        go_roundw
        case rel => exact ⟨k + 1, by omega, by go_num, HF, trivial⟩
        case measure => simp [intOf]; omega
    · have hkn : k = n := by omega
      have HF := Lib.hid (show x ∉ l by
        have := HT.out
        rwa [List.take_of_length_le (by have := HN.out; omega)] at this)
      clear hkn
      go_wp2
      go_ret
      exact Lib.hid ⟨by rw [decide_eq_false HF.out]; rfl, rfl⟩

/-- what Step leaves -/
def Stepped (w : World) (base : Nat) (v : Value) (r : Int × List Int) (e : Ending) (w' : World) : Prop :=
  ∃ u, e = .returned (.tuple #[.int .i64 r.1, u]) ∧ w'.ownsRow base 3 1 u r.2.length (ks .i64 r.2) ∧ Chg w w' (fun i => v.ownBlock = some i) ∧ Grew w v u
theorem Stepped.same {w : World} {base n : Nat} {v : Value} {l : List Int} {z : Int} {r : Int × List Int} (hn : n = l.length) (h : w.ownsRow base 3 1 v n (ks .i64 l)) (hs : r = (z, l)) : Stepped w base v r (.returned (.tuple #[.int .i64 z, v])) w := by
  subst hn
  exact ⟨v, by rw [hs], by rw [hs]; exact h, Chg.refl _ _, Grew.refl _ _⟩
theorem room_above {size x : Int} (hs : ¬ 65536 < size) (hx : 0 ≤ x) (h : x < room size) : ¬ size ≤ x := by
  by_cases h0 : size < 0
  · rw [room_neg h0] at h; omega
  · have := room_mid h0 hs; omega
theorem room_below {size x : Int} (hs : ¬ 65536 < size) (h1 : ¬ x < 0) (h2 : ¬ size ≤ x) : x < room size := by
  have := room_mid (n := size) (by omega) hs; omega
theorem fin_len (N : Nat) : ∀ (a : List (Int × Int)) (l : List Int), (fin N a l).length ≤ l.length + a.length
  | [], l => Nat.le_refl _
  | o :: t, l => by
    have h := fin_len N t (step N l o.1 o.2).2
    have h2 : (step N l o.1 o.2).2.length ≤ l.length + 1 := by
      unfold step put
      repeat' split
      all_goals simp
    simp only [fin, List.length_cons]
    omega
set_option maxHeartbeats 4000000 in
theorem step_big (size kd x : Int) (base n c : Nat) (A : Option Addr) (l : List Int) (w : World) (hs : (65536 : Int) < size) (h : w.ownsRow base 3 1 (.slice A n c) n (ks .i64 l)) (hn : l.length = n) (hsm : n ≤ 8796093022208) (hb : base ≤ w.heap.size) :
    Calls Try.prog 9 #[.int .i64 size, .slice A n c, .int .i64 kd, .int .i64 x] w (Stepped w base (.slice A n c) (step (room size) l kd x)) := by
  suffices H : Calls Try.prog 9 #[.int .i64 size, .slice A n c, .int .i64 kd, .int .i64 x] w (fun e w' => Hid (Stepped w base (.slice A n c) (step (room size) l kd x) e w')) from H.mono fun e w' h => h.out
  obtain ⟨i0, hi, hz0, hz1, hz2⟩ := info_parts infoInt
  have hr := Rd.of_own h
  obtain ⟨d, hd⟩ : ∃ d, d = decide (x ∈ l) := ⟨_, rfl⟩
  have HH := Lib.hid (rhas_any A l n c x w hr hn (by omega))
  rw [← hd] at HH
  have HO := Lib.hid h
  have HN := Lib.hid hn.symm
  have HD := Lib.hid hd
  have HB := Lib.hid hb
  clear h hn hd hb
  by_cases c1 : kd = 1
  · subst c1
    by_cases f : fresh (room size) l x = true
    · have HF := Lib.hid f
      obtain ⟨f1, f2, f3⟩ := fresh_iff.1 f
      have e0 : d = false := by rw [HD.out]; exact decide_eq_false f3
      subst e0
      have e1 : ¬ x < 0 := by omega
      have e2 : ¬ (65536 : Int) ≤ x := by rw [room_big hs] at f2; omega
      have e3 : decide (x < 0) = false := decide_eq_false e1
      have e4 : decide ((65536 : Int) ≤ x) = false := decide_eq_false e2
      clear f f1 f2 f3 hr
      go_enter Try.func9, Try.ntmps9
      go_wp2_with (first
        | (go_at_call 33; refine HH.out.mono ?_; rintro e1 w1 ⟨rfl, rfl⟩)
        | (at_builtin; refine wpList_append_rd _ rfl (.tmp 30) (.tmp 32) _ rfl base 3 i0 _ 1 8 Try.underlying24 hi hz0 hz1 hz2 rfl (by decide) (.slice A n c) n (ks .i64 l) rfl (own_below HO.out ((Below.refl _ _).alloc (Nat.le_refl _) _)) _ (some ⟨w.heap.size, 0, none⟩) 1 1 [.int .i64 x] rfl rfl (rd_new _ _ [.int .i64 x] _ rfl) (ks_one .i64 [x]) (by unfold maxLen; omega) (by omega) (by have := HB.out; simp; omega) ?_
           intro v6 w6 hown6 hgr6 hat6
           have HO6 := Lib.hid hown6; have HG6 := Lib.hid hgr6; have HA6 := Lib.hid hat6
           clear hown6 hgr6 hat6))
      go_ret2
      refine Lib.hid ⟨v6, by rw [step_1, HF.out]; rfl, ?_, (Chg.of_below ((Below.refl _ _).alloc (Nat.le_refl _) _) (Nat.le_refl _)).grown HG6.out fun i _ e => e, fun i hi => ?_⟩
      · rw [step_1]
        show w6.ownsRow base 3 1 v6 (put _ _ _).length (ks .i64 (put _ _ _))
        rw [put_yes HF.out, List.length_append, ks_append, ← HN.out]
        exact HO6.out
      · rcases HA6.out with h | h
        · exact .inl (h ▸ hi)
        · right; rw [h] at hi; injection hi with hi; simp at hi; omega
    · have f' : fresh (room size) l x = false := by simpa using f
      have HF := Lib.hid f'
      have HS := Lib.hid (Stepped.same (r := step (room size) l 1 x) (z := 0) HN.out HO.out (by rw [step_1, f', put_no f']; rfl))
      by_cases e1 : x < 0
      · have e3 : decide (x < 0) = true := decide_eq_true e1
        clear f f' hr
        go_enter Try.func9, Try.ntmps9
        go_wp2_with (first | (go_at_call 33; refine HH.out.mono ?_; rintro e1 w1 ⟨rfl, rfl⟩))
        go_ret2
        exact HS
      · have e3 : decide (x < 0) = false := decide_eq_false e1
        by_cases e2 : (65536 : Int) ≤ x
        · have e4 : decide ((65536 : Int) ≤ x) = true := decide_eq_true e2
          clear f f' hr
          go_enter Try.func9, Try.ntmps9
          go_wp2_with (first | (go_at_call 33; refine HH.out.mono ?_; rintro e1 w1 ⟨rfl, rfl⟩))
          go_ret2
          exact HS
        · have e4 : decide ((65536 : Int) ≤ x) = false := decide_eq_false e2
          have e0 : d = true := by
            rw [HD.out]
            by_cases hm : x ∈ l
            · exact decide_eq_true hm
            · exact absurd (fresh_iff.2 ⟨by omega, by rw [room_big hs]; omega, hm⟩) f
          subst e0
          clear f f' hr
          go_enter Try.func9, Try.ntmps9
          go_wp2_with (first | (go_at_call 33; refine HH.out.mono ?_; rintro e1 w1 ⟨rfl, rfl⟩))
          go_ret2
          exact HS
  by_cases c2 : kd = 2
  · subst c2
    cases d with
    | true =>
      have HS := Lib.hid (Stepped.same (r := step (room size) l 2 x) (z := 1) HN.out HO.out (by rw [step_2, ← HD.out]; rfl))
      clear hr
      go_enter Try.func9, Try.ntmps9
      go_wp2_with (first | (go_at_call 33; refine HH.out.mono ?_; rintro e1 w1 ⟨rfl, rfl⟩))
      go_ret2
      exact HS
    | false =>
      have HS := Lib.hid (Stepped.same (r := step (room size) l 2 x) (z := 0) HN.out HO.out (by rw [step_2, ← HD.out]; rfl))
      clear hr
      go_enter Try.func9, Try.ntmps9
      go_wp2_with (first | (go_at_call 33; refine HH.out.mono ?_; rintro e1 w1 ⟨rfl, rfl⟩))
      go_ret2
      exact HS
  by_cases c3 : kd = 3
  · subst c3
    have HS := Lib.hid (Stepped.same (r := step (room size) l 3 x) (z := (n : Int)) HN.out HO.out (by rw [step_3, ← HN.out]))
    clear hr
    go_enter Try.func9, Try.ntmps9
    go_wp2_with (first | (go_at_call 33; refine HH.out.mono ?_; rintro e1 w1 ⟨rfl, rfl⟩))
    go_ret2
    exact HS
  by_cases c4 : kd = 4
  · subst c4
    by_cases e1 : x < 0
    · have e3 : decide (x < 0) = true := decide_eq_true e1
      have HS := Lib.hid (Stepped.same (r := step (room size) l 4 x) (z := -1) HN.out HO.out (by rw [step_4, nth_neg e1]; rfl))
      clear hr
      go_enter Try.func9, Try.ntmps9
      go_wp2_with (first | (go_at_call 33; refine HH.out.mono ?_; rintro e1 w1 ⟨rfl, rfl⟩))
      go_ret2
      exact HS
    · have e3 : decide (x < 0) = false := decide_eq_false e1
      obtain ⟨X, rfl⟩ : ∃ X : Nat, x = X := ⟨x.toNat, by omega⟩
      by_cases e2 : X < n
      · have e4 : ¬ (n : Int) ≤ X := by omega
        have e5 : decide ((n : Int) ≤ (X : Int)) = false := decide_eq_false e4
        have e6 : (X : Int) < n := by omega
        have hxl : X < l.length := by rw [← HN.out]; exact e2
        obtain ⟨ba, oa, rfl, _⟩ := rd_form hr (by omega)
        have a1 := rd_k hr hxl
        have HS := Lib.hid (Stepped.same (r := step (room size) l 4 (X : Int)) (z := l[X]) HN.out HO.out (by rw [step_4, nth_at hxl]; rfl))
        obtain ⟨z, hz⟩ : ∃ z, z = l[X] := ⟨_, rfl⟩
        rw [← hz] at a1 HS
        clear hr hz hxl
        go_enter Try.func9, Try.ntmps9
        go_wp2_with (first | (go_at_call 33; refine HH.out.mono ?_; rintro e1 w1 ⟨rfl, rfl⟩))
        go_ret2
        exact HS
      · have e4 : (n : Int) ≤ X := by omega
        have e5 : decide ((n : Int) ≤ (X : Int)) = true := decide_eq_true e4
        have HS := Lib.hid (Stepped.same (r := step (room size) l 4 (X : Int)) (z := -1) HN.out HO.out (by rw [step_4, nth_past (by rw [← HN.out]; exact e2)]; rfl))
        clear hr
        go_enter Try.func9, Try.ntmps9
        go_wp2_with (first | (go_at_call 33; refine HH.out.mono ?_; rintro e1 w1 ⟨rfl, rfl⟩))
        go_ret2
        exact HS
  by_cases c5 : kd = 5
  · subst c5
    clear hr
    go_enter Try.func9, Try.ntmps9
    go_wp2_with (first | (go_at_call 33; refine HH.out.mono ?_; rintro e1 w1 ⟨rfl, rfl⟩))
    go_ret2
    exact Lib.hid ⟨.slice none 0 0, rfl, World.ownsRow_nil _ _ _ _, Chg.refl _ _, fun i hi => by simp [Value.ownBlock] at hi⟩
  · have HS := Lib.hid (Stepped.same (r := step (room size) l kd x) (z := -2) HN.out HO.out (step_none _ l x c1 c2 c3 c4 c5))
    have b1 : (kd == 1) = false := by simpa using c1
    have b2 : (kd == 2) = false := by simpa using c2
    have b3 : (kd == 3) = false := by simpa using c3
    have b4 : (kd == 4) = false := by simpa using c4
    have b5 : (kd == 5) = false := by simpa using c5
    clear hr
    go_enter Try.func9, Try.ntmps9
    go_wp2_with (first | (go_at_call 33; refine HH.out.mono ?_; rintro e1 w1 ⟨rfl, rfl⟩))
    go_ret2
    exact HS
set_option maxHeartbeats 4000000 in
theorem step_mid (size kd x : Int) (base n c : Nat) (A : Option Addr) (l : List Int) (w : World) (hs : ¬ (65536 : Int) < size) (h : w.ownsRow base 3 1 (.slice A n c) n (ks .i64 l)) (hn : l.length = n) (hsm : n ≤ 8796093022208) (hb : base ≤ w.heap.size) :
    Calls Try.prog 9 #[.int .i64 size, .slice A n c, .int .i64 kd, .int .i64 x] w (Stepped w base (.slice A n c) (step (room size) l kd x)) := by
  suffices H : Calls Try.prog 9 #[.int .i64 size, .slice A n c, .int .i64 kd, .int .i64 x] w (fun e w' => Hid (Stepped w base (.slice A n c) (step (room size) l kd x) e w')) from H.mono fun e w' h => h.out
  obtain ⟨i0, hi, hz0, hz1, hz2⟩ := info_parts infoInt
  have hr := Rd.of_own h
  obtain ⟨d, hd⟩ : ∃ d, d = decide (x ∈ l) := ⟨_, rfl⟩
  have HH := Lib.hid (rhas_any A l n c x w hr hn (by omega))
  rw [← hd] at HH
  have HO := Lib.hid h
  have HN := Lib.hid hn.symm
  have HD := Lib.hid hd
  have HB := Lib.hid hb
  clear h hn hd hb
  by_cases c1 : kd = 1
  · subst c1
    by_cases f : fresh (room size) l x = true
    · have HF := Lib.hid f
      obtain ⟨f1, f2, f3⟩ := fresh_iff.1 f
      have e0 : d = false := by rw [HD.out]; exact decide_eq_false f3
      subst e0
      have e1 : ¬ x < 0 := by omega
      have e2 : ¬ size ≤ x := room_above hs f1 f2
      have e3 : decide (x < 0) = false := decide_eq_false e1
      have e4 : decide (size ≤ x) = false := decide_eq_false e2
      clear f f1 f2 f3 hr
      go_enter Try.func9, Try.ntmps9
      go_wp2_with (first
        | (go_at_call 33; refine HH.out.mono ?_; rintro e1 w1 ⟨rfl, rfl⟩)
        | (at_builtin; refine wpList_append_rd _ rfl (.tmp 30) (.tmp 32) _ rfl base 3 i0 _ 1 8 Try.underlying24 hi hz0 hz1 hz2 rfl (by decide) (.slice A n c) n (ks .i64 l) rfl (own_below HO.out ((Below.refl _ _).alloc (Nat.le_refl _) _)) _ (some ⟨w.heap.size, 0, none⟩) 1 1 [.int .i64 x] rfl rfl (rd_new _ _ [.int .i64 x] _ rfl) (ks_one .i64 [x]) (by unfold maxLen; omega) (by omega) (by have := HB.out; simp; omega) ?_
           intro v6 w6 hown6 hgr6 hat6
           have HO6 := Lib.hid hown6; have HG6 := Lib.hid hgr6; have HA6 := Lib.hid hat6
           clear hown6 hgr6 hat6))
      go_ret2
      refine Lib.hid ⟨v6, by rw [step_1, HF.out]; rfl, ?_, (Chg.of_below ((Below.refl _ _).alloc (Nat.le_refl _) _) (Nat.le_refl _)).grown HG6.out fun i _ e => e, fun i hi => ?_⟩
      · rw [step_1]
        show w6.ownsRow base 3 1 v6 (put _ _ _).length (ks .i64 (put _ _ _))
        rw [put_yes HF.out, List.length_append, ks_append, ← HN.out]
        exact HO6.out
      · rcases HA6.out with h | h
        · exact .inl (h ▸ hi)
        · right; rw [h] at hi; injection hi with hi; simp at hi; omega
    · have f' : fresh (room size) l x = false := by simpa using f
      have HF := Lib.hid f'
      have HS := Lib.hid (Stepped.same (r := step (room size) l 1 x) (z := 0) HN.out HO.out (by rw [step_1, f', put_no f']; rfl))
      by_cases e1 : x < 0
      · have e3 : decide (x < 0) = true := decide_eq_true e1
        clear f f' hr
        go_enter Try.func9, Try.ntmps9
        go_wp2_with (first | (go_at_call 33; refine HH.out.mono ?_; rintro e1 w1 ⟨rfl, rfl⟩))
        go_ret2
        exact HS
      · have e3 : decide (x < 0) = false := decide_eq_false e1
        by_cases e2 : size ≤ x
        · have e4 : decide (size ≤ x) = true := decide_eq_true e2
          clear f f' hr
          go_enter Try.func9, Try.ntmps9
          go_wp2_with (first | (go_at_call 33; refine HH.out.mono ?_; rintro e1 w1 ⟨rfl, rfl⟩))
          go_ret2
          exact HS
        · have e4 : decide (size ≤ x) = false := decide_eq_false e2
          have e0 : d = true := by
            rw [HD.out]
            by_cases hm : x ∈ l
            · exact decide_eq_true hm
            · exact absurd (fresh_iff.2 ⟨by omega, room_below hs e1 e2, hm⟩) f
          subst e0
          clear f f' hr
          go_enter Try.func9, Try.ntmps9
          go_wp2_with (first | (go_at_call 33; refine HH.out.mono ?_; rintro e1 w1 ⟨rfl, rfl⟩))
          go_ret2
          exact HS
  by_cases c2 : kd = 2
  · subst c2
    cases d with
    | true =>
      have HS := Lib.hid (Stepped.same (r := step (room size) l 2 x) (z := 1) HN.out HO.out (by rw [step_2, ← HD.out]; rfl))
      clear hr
      go_enter Try.func9, Try.ntmps9
      go_wp2_with (first | (go_at_call 33; refine HH.out.mono ?_; rintro e1 w1 ⟨rfl, rfl⟩))
      go_ret2
      exact HS
    | false =>
      have HS := Lib.hid (Stepped.same (r := step (room size) l 2 x) (z := 0) HN.out HO.out (by rw [step_2, ← HD.out]; rfl))
      clear hr
      go_enter Try.func9, Try.ntmps9
      go_wp2_with (first | (go_at_call 33; refine HH.out.mono ?_; rintro e1 w1 ⟨rfl, rfl⟩))
      go_ret2
      exact HS
  by_cases c3 : kd = 3
  · subst c3
    have HS := Lib.hid (Stepped.same (r := step (room size) l 3 x) (z := (n : Int)) HN.out HO.out (by rw [step_3, ← HN.out]))
    clear hr
    go_enter Try.func9, Try.ntmps9
    go_wp2_with (first | (go_at_call 33; refine HH.out.mono ?_; rintro e1 w1 ⟨rfl, rfl⟩))
    go_ret2
    exact HS
  by_cases c4 : kd = 4
  · subst c4
    by_cases e1 : x < 0
    · have e3 : decide (x < 0) = true := decide_eq_true e1
      have HS := Lib.hid (Stepped.same (r := step (room size) l 4 x) (z := -1) HN.out HO.out (by rw [step_4, nth_neg e1]; rfl))
      clear hr
      go_enter Try.func9, Try.ntmps9
      go_wp2_with (first | (go_at_call 33; refine HH.out.mono ?_; rintro e1 w1 ⟨rfl, rfl⟩))
      go_ret2
      exact HS
    · have e3 : decide (x < 0) = false := decide_eq_false e1
      obtain ⟨X, rfl⟩ : ∃ X : Nat, x = X := ⟨x.toNat, by omega⟩
      by_cases e2 : X < n
      · have e4 : ¬ (n : Int) ≤ X := by omega
        have e5 : decide ((n : Int) ≤ (X : Int)) = false := decide_eq_false e4
        have e6 : (X : Int) < n := by omega
        have hxl : X < l.length := by rw [← HN.out]; exact e2
        obtain ⟨ba, oa, rfl, _⟩ := rd_form hr (by omega)
        have a1 := rd_k hr hxl
        have HS := Lib.hid (Stepped.same (r := step (room size) l 4 (X : Int)) (z := l[X]) HN.out HO.out (by rw [step_4, nth_at hxl]; rfl))
        obtain ⟨z, hz⟩ : ∃ z, z = l[X] := ⟨_, rfl⟩
        rw [← hz] at a1 HS
        clear hr hz hxl
        go_enter Try.func9, Try.ntmps9
        go_wp2_with (first | (go_at_call 33; refine HH.out.mono ?_; rintro e1 w1 ⟨rfl, rfl⟩))
        go_ret2
        exact HS
      · have e4 : (n : Int) ≤ X := by omega
        have e5 : decide ((n : Int) ≤ (X : Int)) = true := decide_eq_true e4
        have HS := Lib.hid (Stepped.same (r := step (room size) l 4 (X : Int)) (z := -1) HN.out HO.out (by rw [step_4, nth_past (by rw [← HN.out]; exact e2)]; rfl))
        clear hr
        go_enter Try.func9, Try.ntmps9
        go_wp2_with (first | (go_at_call 33; refine HH.out.mono ?_; rintro e1 w1 ⟨rfl, rfl⟩))
        go_ret2
        exact HS
  by_cases c5 : kd = 5
  · subst c5
    clear hr
    go_enter Try.func9, Try.ntmps9
    go_wp2_with (first | (go_at_call 33; refine HH.out.mono ?_; rintro e1 w1 ⟨rfl, rfl⟩))
    go_ret2
    exact Lib.hid ⟨.slice none 0 0, rfl, World.ownsRow_nil _ _ _ _, Chg.refl _ _, fun i hi => by simp [Value.ownBlock] at hi⟩
  · have HS := Lib.hid (Stepped.same (r := step (room size) l kd x) (z := -2) HN.out HO.out (step_none _ l x c1 c2 c3 c4 c5))
    have b1 : (kd == 1) = false := by simpa using c1
    have b2 : (kd == 2) = false := by simpa using c2
    have b3 : (kd == 3) = false := by simpa using c3
    have b4 : (kd == 4) = false := by simpa using c4
    have b5 : (kd == 5) = false := by simpa using c5
    clear hr
    go_enter Try.func9, Try.ntmps9
    go_wp2_with (first | (go_at_call 33; refine HH.out.mono ?_; rintro e1 w1 ⟨rfl, rfl⟩))
    go_ret2
    exact HS
theorem rstep_any (size kd x : Int) (base n c : Nat) (A : Option Addr) (l : List Int) (w : World) (h : w.ownsRow base 3 1 (.slice A n c) n (ks .i64 l)) (hn : l.length = n) (hsm : n ≤ 8796093022208) (hb : base ≤ w.heap.size) :
    Calls Try.prog 9 #[.int .i64 size, .slice A n c, .int .i64 kd, .int .i64 x] w (Stepped w base (.slice A n c) (step (room size) l kd x)) := by
  by_cases hs : (65536 : Int) < size
  · exact step_big size kd x base n c A l w hs h hn hsm hb
  · exact step_mid size kd x base n c A l w hs h hn hsm hb
end Go.Proofs.Ytckdjbonplpknaa.Sparse
