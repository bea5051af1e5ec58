/-
  CONTRACT OF fixed: the chapter's examples come out true, wherever the tables are laid.
-/
import Derived.Test.YtochodombojamaaDoorNormText
namespace Go.Proofs.YtochodombojamaaDoor.Norm
open Go.Shelf Go.RowKit Go.Sort
open Utf hiding infoI32 rd_new own_form below_drewN new_any write_any close_any
open Ucd hiding grow same Told

theorem Fm.next {w w' : World} {base fb : Nat} {v : Value} {K : List Int} {cl : Bool} (h : Fm w base fb v K cl) (hb : Below w.heap.size w w') : Fm w' base fb v K cl :=
  h.keep (S := fun _ => False) (Chg.of_below hb (Nat.le_refl _)) (fun e => e) (fun _ _ e => e)
/-- a Write, its lists named -/
theorem write_at (base fb : Nat) (v : Value) (K l T P : List Int) (n m : Nat) (hT : told K (fulls l) = T) (hP : pend K (fulls l) = P) (hTn : T.length = m) (hn : l.length = n) (A : Option Addr) (c : Nat) (w : World) (hL : Laid w) (hF : Fm w base fb v K false) (hK : Marks K) (hr : Rd w w.heap.size A (nums l)) (hd : ∀ b o, A = some ⟨b, o, none⟩ → v.ownBlock ≠ some b)
    (hb : base ≤ w.heap.size) (hg : 2 < base) (hsm : K.length + 3 * n ≤ 137438953472) :
    Calls Tryd.prog 9 #[.pointer (some ⟨fb, 0, none⟩), .slice A n c] w fun e w' => ∃ A2 c2 v3, e = .returned (.slice A2 m c2) ∧ Rd w' w'.heap.size A2 (nums T) ∧ Fm w' base fb v3 P false ∧ Chg w w' (Its fb v) ∧ (∀ b o, A2 = some ⟨b, o, none⟩ → v3.ownBlock ≠ some b) :=
  (write_any base fb v K l A n c w hL hF hK hr hd hn hb hg hsm).mono fun e w' ⟨v2, v3, he, h1, h2, h3, _, h5, _⟩ => by
    rw [hP] at h1
    rw [hT] at h2
    obtain ⟨A2, c2, rfl, _, _, h6⟩ := own_form h2
    exact ⟨A2, c2, v3, by rw [he, hTn], h6, h1, h3, fun b o e => (h5 b (by subst e; rfl)).1⟩
theorem normal_at (l X : List Int) (n m : Nat) (hX : normal l = X) (hn : l.length = n) (hm : X.length = m) (A : Option Addr) (c : Nat) (w : World) (hL : Laid w) (hr : Rd w w.heap.size A (nums l)) (hsm : n ≤ 1000) :
    Calls Tryd.prog 12 #[.slice A n c] w (Ucd.Told w X m) :=
  (normal_any A l n c w hL hr hn (by omega)).mono fun _ _ h => by
    obtain ⟨v, he, ho, hb⟩ := h
    rw [hX] at ho
    obtain ⟨A2, c2, rfl, _, _, h6⟩ := own_form ho
    exact ⟨A2, c2, by rw [he, hm], h6, hb⟩
theorem is_at (l : List Int) (n : Nat) (b : Bool) (hX : Ucd.same (normal l) l = b) (hn : l.length = n) (A : Option Addr) (c : Nat) (w : World) (hL : Laid w) (hr : Rd w w.heap.size A (nums l)) (hsm : n ≤ 1000) :
    Calls Tryd.prog 13 #[.slice A n c] w (Ret w (.bool b)) := hX ▸ is_any A l n c w hL hr hn (by omega)
theorem same2_at (l m : List Int) (n k : Nat) (b : Bool) (hX : Ucd.same (normal l) (normal m) = b) (hn : l.length = n) (hk : m.length = k) (A B : Option Addr) (c d : Nat) (w : World) (hL : Laid w) (hr : Rd w w.heap.size A (nums l)) (hs : Rd w w.heap.size B (nums m)) (hsm : n ≤ 1000) (hsk : k ≤ 1000) :
    Calls Tryd.prog 7 #[.slice A n c, .slice B k d] w (Ret w (.bool b)) := hX ▸ same2_any A B l m n k c d w hL hr hs hn hk (by omega) (by omega)
theorem text_at (l t : List UInt8) (n : Nat) (hX : textF l = t) (hn : l.length = n) (A : Option Addr) (c : Nat) (w : World) (hL : Laid w) (hr : Rd w w.heap.size A (bys l)) (hc : n ≤ c) (hcm : c ≤ 9223372036854775807) (hsm : n ≤ 1000) :
    Calls Tryd.prog 14 #[.slice A n c] w (Ret w (.string ⟨t.toArray⟩)) := hX ▸ text_any A l n c w hL hr hn hc hcm (by omega)
theorem runes_at (s : ByteArray) (X : List Int) (m : Nat) (hX : runesF s.data.toList = X) (hm : X.length = m) (w : World) (hs : s.size ≤ 1000) : Calls Tryd.prog 15 #[.string s] w (Ucd.Told w X m) :=
  (runes_any s w (by omega)).mono fun _ _ h => by
    obtain ⟨v, he, ho, hb⟩ := h
    rw [hX] at ho
    obtain ⟨A2, c2, rfl, _, _, h6⟩ := own_form ho
    exact ⟨A2, c2, by rw [he, hm], h6, hb⟩
theorem close_at (base fb : Nat) (v : Value) (K X : List Int) (m : Nat) (hX : ord K = X) (hm : X.length = m) (cl : Bool) (w : World) (hL : Laid w) (hF : Fm w base fb v K cl) (hb : base ≤ w.heap.size) (hg : 2 < base) (hsm : K.length ≤ 1099511627776) :
    Calls Tryd.prog 16 #[.pointer (some ⟨fb, 0, none⟩)] w fun e w' => ∃ A c, e = .returned (.slice A m c) ∧ Rd w' w'.heap.size A (nums X) ∧ Fm w' base fb (.slice none 0 0) [] true ∧ Chg w w' (Its fb v) :=
  (close_any base fb v K cl w hL hF hb hg hsm).mono fun e w' ⟨he, h1, h2, h3⟩ => by
    obtain ⟨A2, c2, rfl, _, _, h6⟩ := own_form h1
    have hk : K.length = m := by rw [← hm, ← hX, ord_len]
    rw [hX] at h6
    exact ⟨A2, c2, by rw [he, hk], h6, h2, h3⟩

/-- a literal of bytes, taken as a slice of bytes: the place behind its last cell is marked -/
theorem conv_lit (w : World) (C : Array Value) : (convert 36 36 (.slice (some ⟨w.heap.size, 0, none⟩) 2 2)).run Tryd.prog (w.alloc (.cells C 5)) = .ok (.slice (some ⟨w.heap.size, 0, none⟩) 2 2) (w.alloc (.cells C 5 (C.size, C.size + 1))) := by
  have hsh : (w.alloc (.cells C 5)).shape? w.heap.size = some (5, C.size) := by
    have : (w.alloc (.cells C 5)).heap[w.heap.size]? = some (.cells C 5) := heap_alloc_new w _
    unfold World.shape?
    rw [this]
  have hfr : (w.alloc (.cells C 5)).freeze ⟨w.heap.size, C.size, none⟩ 1 = w.alloc (.cells C 5 (C.size, C.size + 1)) := by
    have hm : ∀ (a : Array Obj) (x : Obj) (f : Obj → Obj), (a.push x).modify a.size f = a.push (f x) := by
      intro a x f
      apply Array.ext
      · simp
      · intro i h1 h2
        simp only [Array.getElem_modify, Array.getElem_push]
        by_cases h : a.size = i
        · subst h
          simp
        · have hi : i < a.size := by simp at h1; omega
          simp [h, hi]
    unfold World.freeze
    rw [if_neg (by decide)]
    show ({ w.alloc (.cells C 5) with heap := (w.heap.push (.cells C 5)).modify w.heap.size _ } : World) = _
    rw [hm]
    rfl
  simp [convert, run_underlying Tryd.underlying36, run_underlying Tryd.underlying5, markStringish, hsh]
  exact hfr
theorem rd_lit (u : World) (t : TypeId) (fr : Nat × Nat) (cs : List Value) : Rd (u.alloc (.cells cs.toArray t fr)) (u.heap.size + 1) (some ⟨u.heap.size, 0, none⟩) cs := fun _ =>
  ⟨u.heap.size, 0, rfl, by omega, fun j x hx => by
    rw [cell_of_row (u.alloc (.cells cs.toArray t fr)) u.heap.size (0 + j) _ t fr (heap_alloc_new u _), Nat.zero_add]
    simpa using hx⟩
/-- what is kept in mind while the examples are gone through -/
structure Fx (base : Nat) (w wk : World) (v : Value) (A : Option Addr) : Prop where
  bel : Below base w wk
  laid : Laid wk
  fm : Fm wk base base v [] false
  rd : Rd wk wk.heap.size A (nums [769, 98])
  le : base ≤ wk.heap.size
theorem Fx.next {base : Nat} {w wk wl : World} {v : Value} {A : Option Addr} (h : Fx base w wk v A) (hb : Below wk.heap.size wk wl) : Fx base w wl v A :=
  ⟨h.bel.trans (hb.mono h.le), h.laid.next hb, h.fm.next hb, (h.rd.below hb).more hb.size, Nat.le_trans h.le hb.size⟩
theorem Fx.alloc {base : Nat} {w wk : World} {v : Value} {A : Option Addr} (h : Fx base w wk v A) (o : Obj) : Fx base w (wk.alloc o) v A := h.next ((Below.refl _ _).alloc (Nat.le_refl _) o)
theorem Fx.drewN {base : Nat} {w wk : World} {v : Value} {A : Option Addr} (h : Fx base w wk v A) (k : Nat) : Fx base w (wk.drewN k) v A := h.next (below_drewN (Below.refl _ _) k)

set_option maxHeartbeats 8000000 in
set_option maxRecDepth 100000 in
theorem fixed_any (w : World) (hL : Laid w) : Calls Tryd.prog 4 #[] w (Ret w (.bool true)) := by
  have e1 : told [] (fulls [101, 769]) = [101] := by decide +kernel
  have e2 : pend [] (fulls [101, 769]) = [769] := by decide +kernel
  have e3 : told [769] (fulls [98]) = [769, 98] := by decide +kernel
  have e4 : pend [769] (fulls [98]) = [] := by decide +kernel
  have e5 : normal [97, 769, 803] = [97, 803, 769] := by decide +kernel
  have e6 : Ucd.same (normal [8491]) (normal [65, 778]) = true := by decide +kernel
  have e7 : Ucd.same (normal [65]) [65] = true := by decide +kernel
  have e8 : Ucd.same (normal [233]) [233] = false := by decide +kernel
  have e9 : textF [195, 169] = [101, 204, 129] := by decide +kernel
  have e10 : runesF (⟨#[101, 204, 129]⟩ : ByteArray).data.toList = [101, 769] := by decide +kernel
  have e11 : ord [] = [] := rfl
  have e12 : Marks [769] := fun x hx => by rw [List.mem_singleton.1 hx]; decide +kernel
  have E1 := Lib.hid e1; have E2 := Lib.hid e2; have E3 := Lib.hid e3; have E4 := Lib.hid e4; have E5 := Lib.hid e5; have E6 := Lib.hid e6
  have E7 := Lib.hid e7; have E8 := Lib.hid e8; have E9 := Lib.hid e9; have E10 := Lib.hid e10; have E11 := Lib.hid e11; have E12 := Lib.hid e12
  clear e1 e2 e3 e4 e5 e6 e7 e8 e9 e10 e11 e12
  have HL := Lib.hid hL
  have hsz := hL.size
  have hb1 : Below w.heap.size w (w.alloc (.cells #[.slice none 0 0, .bool false] 43)) := (Below.refl _ _).alloc (Nat.le_refl _) _
  have HF1 := Lib.hid (new_fm w w.heap.size (Nat.le_refl _))
  have HB1 := Lib.hid hb1
  have HL1 := Lib.hid (hL.alloc (.cells #[.slice none 0 0, .bool false] 43))
  obtain ⟨base, hbase⟩ : ∃ base, base = w.heap.size := ⟨_, rfl⟩
  have HBE := Lib.hid hbase
  rw [← hbase] at HF1 HB1 hsz
  clear hL hb1
  go_enter Tryd.func4, Tryd.ntmps4
  go_wp2_with fail
  refine (new_any w).mono ?_
  rintro e w1 ⟨rfl, hw1⟩
  rw [← hw1] at HF1 HB1 HL1
  rw [← hbase]
  clear hw1 hbase
  go_wp2_with fail
  -- a := f.Write
  have HL2 := Lib.hid (HL1.out.alloc (.cells (nums [101, 769]).toArray 21))
  have HF2 := Lib.hid (HF1.out.next ((Below.refl _ _).alloc (Nat.le_refl _) (.cells (nums [101, 769]).toArray 21)))
  have HB2 := Lib.hid (HB1.out.alloc (Nat.le_trans (Nat.le_of_eq HBE.out) HB1.out.size) (.cells (nums [101, 769]).toArray 21))
  refine (write_at base base (.slice none 0 0) [] [101, 769] [101] [769] 2 1 E1.out E2.out rfl rfl _ _ _ HL2.out HF2.out marks_nil ((rd_new w1 _ (nums [101, 769]) w1.heap.size rfl).more (by simp)) (fun _ _ _ h => by cases h) (Nat.le_trans (Nat.le_of_eq HBE.out) HB2.out.size) hsz (by decide)).mono ?_
  rintro e w3 ⟨A3, c3, v3, rfl, hr3, hf3, hc3, _⟩
  have hlow3 : Below base _ w3 := hc3.below (Nat.le_trans (Nat.le_of_eq HBE.out) HB2.out.size) (fun i hi => HF2.out.its hi)
  have HB3 := Lib.hid (HB2.out.trans hlow3)
  have HL3 := Lib.hid (HL2.out.below hlow3 hsz)
  have HF3 := Lib.hid hf3
  clear hr3 hf3 hc3 hlow3 HL1 HF1 HB1 HL2 HF2 HB2
  go_wp2_with fail
  refine (pending_any base base v3 [769] false w3 HF3.out).mono ?_
  rintro e w4 ⟨rfl, rfl⟩
  go_wp2_with fail
  -- b := f.Write
  have HL4 := Lib.hid (HL3.out.alloc (.cells (nums [98]).toArray 21))
  have HF4 := Lib.hid (HF3.out.next ((Below.refl _ _).alloc (Nat.le_refl _) (.cells (nums [98]).toArray 21)))
  have HB4 := Lib.hid (HB3.out.alloc (Nat.le_trans (Nat.le_of_eq HBE.out) HB3.out.size) (.cells (nums [98]).toArray 21))
  have HN4 := Lib.hid (fun (b o : Nat) (h : some (⟨w3.heap.size, 0, none⟩ : Addr) = some ⟨b, o, none⟩) => show v3.ownBlock ≠ some b from fun e => by
    have := (HF3.out.own.lt b e).2
    injection h with h; injection h with h; omega)
  refine (write_at base base v3 [769] [98] [769, 98] [] 1 2 E3.out E4.out rfl rfl _ _ _ HL4.out HF4.out E12.out ((rd_new w3 _ (nums [98]) w3.heap.size rfl).more (by simp)) HN4.out (Nat.le_trans (Nat.le_of_eq HBE.out) HB4.out.size) hsz (by decide)).mono ?_
  rintro e w5 ⟨A5, c5, v5, rfl, hr5, hf5, hc5, hn5⟩
  have hlow5 : Below base _ w5 := hc5.below (Nat.le_trans (Nat.le_of_eq HBE.out) HB4.out.size) (fun i hi => HF4.out.its hi)
  have HB5 := Lib.hid (HB4.out.trans hlow5)
  have HL5 := Lib.hid (HL4.out.below hlow5 hsz)
  have HF5 := Lib.hid hf5
  have HR5 := Lib.hid hr5
  clear hr5 hf5 hc5 hn5 hlow5 HL3 HF3 HB3 HL4 HF4 HB4 HN4
  have X5 := Lib.hid (show Fx base w w5 v5 A5 from ⟨HB5.out, HL5.out, HF5.out, HR5.out, Nat.le_trans (Nat.le_of_eq HBE.out) HB5.out.size⟩)
  clear HB5 HL5 HF5 HR5
  go_wp2_with fail
  -- Normal
  have X6 := Lib.hid (X5.out.alloc (.cells (nums [97, 769, 803]).toArray 21))
  refine (normal_at [97, 769, 803] [97, 803, 769] 3 3 E5.out rfl rfl _ _ _ X6.out.laid ((rd_new w5 _ (nums [97, 769, 803]) w5.heap.size rfl).more (by simp)) (by decide)).mono ?_
  rintro e w7 ⟨A7, c7, rfl, hr7, hb7⟩
  have X7 := Lib.hid (X6.out.next hb7)
  have HR7 := Lib.hid hr7
  clear hr7 hb7 X5 X6
  go_wp2_with fail
  have X8 := Lib.hid (X7.out.alloc (.cells (nums [97, 803, 769]).toArray 21))
  refine (same_at _ _ [97, 803, 769] 3 _ _ _ ((HR7.out.alloc (Nat.le_refl _) _).more (by simp)) ((rd_new w7 _ (nums [97, 803, 769]) w7.heap.size rfl).more (by simp)) rfl (by decide)).mono ?_
  rintro e w9 ⟨rfl, k9, hw9⟩
  have X9 := Lib.hid (X8.out.drewN k9)
  rw [← hw9] at X9
  clear hw9 X7 X8 HR7
  go_wp2_with fail
  -- Same
  have X10 := Lib.hid ((X9.out.alloc (.cells (nums [8491]).toArray 21)).alloc (.cells (nums [65, 778]).toArray 21))
  refine (same2_at [8491] [65, 778] 1 2 true E6.out rfl rfl _ _ _ _ _ X10.out.laid (((rd_new w9 _ (nums [8491]) w9.heap.size rfl).alloc (by simp) _).more (by simp)) ((rd_new _ _ (nums [65, 778]) (w9.heap.size + 1) (by simp)).more (by simp)) (by decide) (by decide)).mono ?_
  rintro e w11 ⟨rfl, hb11⟩
  have X11 := Lib.hid (X10.out.next hb11)
  clear hb11 X9 X10
  go_wp2_with fail
  -- Is
  have X12 := Lib.hid (X11.out.alloc (.cells (nums [65]).toArray 21))
  refine (is_at [65] 1 true E7.out rfl _ _ _ X12.out.laid ((rd_new w11 _ (nums [65]) w11.heap.size rfl).more (by simp)) (by decide)).mono ?_
  rintro e w13 ⟨rfl, hb13⟩
  have X13 := Lib.hid (X12.out.next hb13)
  clear hb13 X11 X12
  go_wp2_with fail
  have X14 := Lib.hid (X13.out.alloc (.cells (nums [233]).toArray 21))
  refine (is_at [233] 1 false E8.out rfl _ _ _ X14.out.laid ((rd_new w13 _ (nums [233]) w13.heap.size rfl).more (by simp)) (by decide)).mono ?_
  rintro e w15 ⟨rfl, hb15⟩
  have X15 := Lib.hid (X14.out.next hb15)
  clear hb15 X13 X14
  -- Text
  have X16 := Lib.hid (X15.out.alloc (.cells (bys [195, 169]).toArray 5 (2, 3)))
  have hcv : (convert 36 36 (.slice (some ⟨w15.heap.size, 0, none⟩) 2 2)).run Tryd.prog (w15.alloc (.cells #[.int .u8 195, .int .u8 169] 5)) = .ok (.slice (some ⟨w15.heap.size, 0, none⟩) 2 2) (w15.alloc (.cells (bys [195, 169]).toArray 5 (2, 3))) := conv_lit w15 _
  go_wp2_with fail
  refine (text_at [195, 169] [101, 204, 129] 2 E9.out rfl _ _ _ X16.out.laid ((rd_lit w15 _ (2, 3) (bys [195, 169])).more (by simp)) (Nat.le_refl _) (by decide) (by decide)).mono ?_
  rintro e w17 ⟨rfl, hb17⟩
  have X17 := Lib.hid (X16.out.next hb17)
  clear hb17 X15 X16 hcv
  go_wp2_with fail
  -- Runes
  refine (runes_at ⟨#[101, 204, 129]⟩ [101, 769] 2 E10.out rfl w17 (by decide)).mono ?_
  rintro e w18 ⟨A18, c18, rfl, _, hb18⟩
  have X18 := Lib.hid (X17.out.next hb18)
  clear hb18 X17
  go_wp2_with fail
  -- what the second Write told
  have X19 := Lib.hid (X18.out.alloc (.cells (nums [769, 98]).toArray 21))
  refine (same_at _ _ [769, 98] 2 _ _ _ X19.out.rd ((rd_new w18 _ (nums [769, 98]) w18.heap.size rfl).more (by simp)) rfl (by decide)).mono ?_
  rintro e w20 ⟨rfl, k20, hw20⟩
  have X20 := Lib.hid (X19.out.drewN k20)
  rw [← hw20] at X20
  clear hw20 X18 X19
  go_wp2_with fail
  -- Close
  refine (close_at base base v5 [] [] 0 E11.out rfl false w20 X20.out.laid X20.out.fm X20.out.le hsz (by decide)).mono ?_
  rintro e w21 ⟨A21, c21, rfl, _, hf21, hc21⟩
  have HB21 := Lib.hid (X20.out.bel.trans (hc21.below X20.out.le (fun i hi => X20.out.fm.its hi)))
  clear hf21 hc21
  go_wp2_with fail
  go_ret
  exact ⟨rfl, by have := HB21.out; rwa [HBE.out] at this⟩
end Go.Proofs.YtochodombojamaaDoor.Norm
