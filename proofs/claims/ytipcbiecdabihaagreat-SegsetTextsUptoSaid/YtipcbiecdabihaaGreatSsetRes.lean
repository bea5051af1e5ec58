/-
  THE OPERATIONS' CONTRACTS OVER SETS THAT CAN BE READ; the chapter's examples as mathematics.
-/
import Derived.Test.YtipcbiecdabihaaGreatSsetRhas
namespace Go.Proofs.YtipcbiecdabihaaGreat.Sset
open Go.RowKit
open Utf (Rd Blk)
open Rset
set_option maxRecDepth 100000

theorem ofS_o (x : Tx) : (∀ t ∈ (ofS x).o, t = x) ∧ (ofS x).o.length ≤ 1 := by
  unfold ofS
  split
  · exact ⟨fun t h => by simp [onesS] at h, Nat.zero_le _⟩
  · exact ⟨fun t h => List.mem_singleton.1 ((rise_mem [x] t).1 (List.mem_filter.1 h).1), normS_len ⟨[], [], [x]⟩⟩
theorem short_uni2 {a b : St} (h : Short a.o) (k : Short b.o) : Short (uni2 a b).o := short_meet (a := notS (normS a)) (b := notS (normS b)) (short_norm h) (short_norm k)
theorem short_meet2 {a b : St} (h : Short a.o) (k : Short b.o) : Short (meet2 a b).o := short_meet (a := normS a) (b := normS b) (short_norm h) (short_norm k)
theorem short_minus2 {a b : St} (h : Short a.o) (k : Short b.o) : Short (minus2 a b).o := short_meet (a := normS a) (b := notS (normS b)) (short_norm h) (short_norm k)
section
variable {w : World} {A1 A2 A3 B1 B2 B3 : Option Addr} {n1 n2 n3 m1 m2 m3 : Nat} {a b : St}
theorem r_union (c1 c2 c3 d1 d2 d3 : Nat) (h : Has3 w A1 n1 A2 n2 A3 n3 a) (k : Has3 w B1 m1 B2 m2 B3 m3 b) (hsm : n3 + m3 ≤ 1073741824) : Calls Tryz.prog 10 #[.agg #[.slice A1 n1 c1, .slice A2 n2 c2, .slice A3 n3 c3], .agg #[.slice B1 m1 d1, .slice B2 m2 d2, .slice B3 m3 d3]] w (ResO w (uni2 a b)) :=
  (sunion_any A1 A2 A3 B1 B2 B3 n1 c1 n2 c2 n3 c3 m1 d1 m2 d2 m3 d3 a b w h k hsm).mono fun _ _ q => q.made (uni2_nm a b) (short_uni2 h.o.short k.o.short) (Nat.le_trans (uni2_len a b) (by have := h.o.len; have := k.o.len; omega))
theorem r_meet2 (c1 c2 c3 d1 d2 d3 : Nat) (h : Has3 w A1 n1 A2 n2 A3 n3 a) (k : Has3 w B1 m1 B2 m2 B3 m3 b) (hsm : n3 + m3 ≤ 1073741824) : Calls Tryz.prog 11 #[.agg #[.slice A1 n1 c1, .slice A2 n2 c2, .slice A3 n3 c3], .agg #[.slice B1 m1 d1, .slice B2 m2 d2, .slice B3 m3 d3]] w (ResO w (meet2 a b)) :=
  (smeet2_any A1 A2 A3 B1 B2 B3 n1 c1 n2 c2 n3 c3 m1 d1 m2 d2 m3 d3 a b w h k hsm).mono fun _ _ q => q.made (meet2_nm a b) (short_meet2 h.o.short k.o.short) (Nat.le_trans (meet2_len a b) (by have := h.o.len; have := k.o.len; omega))
theorem r_minus (c1 c2 c3 d1 d2 d3 : Nat) (h : Has3 w A1 n1 A2 n2 A3 n3 a) (k : Has3 w B1 m1 B2 m2 B3 m3 b) (hsm : n3 + m3 ≤ 1073741824) : Calls Tryz.prog 12 #[.agg #[.slice A1 n1 c1, .slice A2 n2 c2, .slice A3 n3 c3], .agg #[.slice B1 m1 d1, .slice B2 m2 d2, .slice B3 m3 d3]] w (ResO w (minus2 a b)) :=
  (sminus_any A1 A2 A3 B1 B2 B3 n1 c1 n2 c2 n3 c3 m1 d1 m2 d2 m3 d3 a b w h k hsm).mono fun _ _ q => q.made (minus2_nm a b) (short_minus2 h.o.short k.o.short) (Nat.le_trans (minus2_len a b) (by have := h.o.len; have := k.o.len; omega))
theorem r_equal (c1 c2 c3 d1 d2 d3 : Nat) (h : Has3 w A1 n1 A2 n2 A3 n3 a) (k : Has3 w B1 m1 B2 m2 B3 m3 b) (hsm : n3 + m3 ≤ 1073741824) {q : Bool} (e : eqS a b = q) : Calls Tryz.prog 19 #[.agg #[.slice A1 n1 c1, .slice A2 n2 c2, .slice A3 n3 c3], .agg #[.slice B1 m1 d1, .slice B2 m2 d2, .slice B3 m3 d3]] w (Ret w (.bool q)) :=
  e ▸ sequal_any A1 A2 A3 B1 B2 B3 n1 c1 n2 c2 n3 c3 m1 d1 m2 d2 m3 d3 a b w h k hsm
theorem r_rsame (c1 c2 c3 d1 d2 d3 : Nat) (h : Has3 w A1 n1 A2 n2 A3 n3 a) (k : Has3 w B1 m1 B2 m2 B3 m3 b) {q : Bool} (e : decide (a = b) = q) : Calls Tryz.prog 18 #[.agg #[.slice A1 n1 c1, .slice A2 n2 c2, .slice A3 n3 c3], .agg #[.slice B1 m1 d1, .slice B2 m2 d2, .slice B3 m3 d3]] w (Ret w (.bool q)) :=
  e ▸ rssame_any A1 A2 A3 B1 B2 B3 n1 c1 n2 c2 n3 c3 m1 d1 m2 d2 m3 d3 a b w h k
theorem r_not2 (c1 c2 c3 : Nat) (h : Has3 w A1 n1 A2 n2 A3 n3 a) : Calls Tryz.prog 13 #[.agg #[.slice A1 n1 c1, .slice A2 n2 c2, .slice A3 n3 c3]] w (ResO w (not2 a)) :=
  (snot2_any A1 A2 A3 n1 c1 n2 c2 n3 c3 a w h).mono fun _ _ q => q.made (not2_nm a) (short_norm h.o.short) (Nat.le_trans (not2_len a) (by have := h.o.len; have := h.o.sm; omega))
theorem r_may (c1 c2 c3 : Nat) (h : Has3 w A1 n1 A2 n2 A3 n3 a) {q : Bool} (e : decide (normS a = a) = q) : Calls Tryz.prog 14 #[.agg #[.slice A1 n1 c1, .slice A2 n2 c2, .slice A3 n3 c3]] w (Ret w (.bool q)) := e ▸ smay_any A1 A2 A3 n1 c1 n2 c2 n3 c3 a w h
theorem r_has (c1 c2 c3 : Nat) (h : Has3 w A1 n1 A2 n2 A3 n3 a) (X : ByteArray) (x : Tx) (hX : X.toList = x) (hl : x.length ≤ 1073741824) {q : Bool} (e : hasS a x = q) : Calls Tryz.prog 15 #[.agg #[.slice A1 n1 c1, .slice A2 n2 c2, .slice A3 n3 c3], .string X] w (Ret w (.bool q)) := e ▸ shas_any A1 A2 A3 n1 c1 n2 c2 n3 c3 a X x hX (by omega) w h
theorem r_rhas (c1 c2 c3 : Nat) (h : Has3 w A1 n1 A2 n2 A3 n3 a) (X : ByteArray) (x : Tx) (hX : X.toList = x) (hl : x.length ≤ 1073741824) {q : Bool} (e : hasS a x = q) : Calls Tryz.prog 17 #[.agg #[.slice A1 n1 c1, .slice A2 n2 c2, .slice A3 n3 c3], .string X] w (Ret w (.bool q)) := e ▸ rshas_any A1 A2 A3 n1 c1 n2 c2 n3 c3 a X x hX hl w h
theorem r_some (c1 c2 c3 : Nat) (h : Has3 w A1 n1 A2 n2 A3 n3 a) (ho : (normS a).o ≠ []) : Calls Tryz.prog 20 #[.agg #[.slice A1 n1 c1, .slice A2 n2 c2, .slice A3 n3 c3]] w (Ret w (.bool false)) := semp_some A1 A2 A3 n1 c1 n2 c2 n3 c3 a w h ho
theorem r_none (c1 c2 c3 : Nat) (h : Has3 w A1 n1 A2 n2 A3 n3 a) (ho : normS a = none_) : Calls Tryz.prog 20 #[.agg #[.slice A1 n1 c1, .slice A2 n2 c2, .slice A3 n3 c3]] w (Ret w (.bool true)) := semp_none A1 A2 A3 n1 c1 n2 c2 n3 c3 a w h ho
end
theorem short_nil : Short [] := fun t h => by simp at h
theorem r_of (X : ByteArray) (x : Tx) (hX : X.toList = x) (hl : x.length ≤ 1073741824) (w : World) : Calls Tryz.prog 27 #[.string X] w (ResO w (ofS x)) :=
  (sof_any X x hX hl w).mono fun _ _ q => q.made (ofS_nm x) (fun t ht => by rw [(ofS_o x).1 t ht]; exact hl) (Nat.le_trans (ofS_o x).2 (by omega))
theorem r_first (A : Option Addr) (l : List Rg) (n c : Nat) (w : World) (h : ArgR w A n l) : Calls Tryz.prog 23 #[.slice A n c] w (ResO w (firstS l)) :=
  (sfirst_any A l n c w h).mono fun _ _ q => q.made (firstS_nm l) short_nil (Nat.zero_le _)
theorem r_ones (A : Option Addr) (l : List Rg) (n c : Nat) (w : World) (h : ArgR w A n l) : Calls Tryz.prog 28 #[.slice A n c] w (ResO w (onesS l)) :=
  (sones_any A l n c w h).mono fun _ _ q => q.made (onesS_nm l) short_nil (Nat.zero_le _)
theorem r_all (w : World) : Calls Tryz.prog 21 #[] w (ResO w allS) :=
  (sall_any w).mono fun _ _ q => q.made allS_nm short_nil (Nat.zero_le _)

/-! ### the chapter's examples -/
def eT : Tx := [101, 204, 129]
def xT : Tx := [101, 204, 130]
def eS : St := ⟨[], [], [eT]⟩
def az : List Rg := [(97, 122)]
theorem good_e : good eT = true := by decide +kernel
theorem good_x : good xT = true := by decide +kernel
theorem ok_e : okT eT = true := by decide +kernel
theorem eS_nm : NmS eS := ⟨Nm.nil, Nm.nil, List.pairwise_singleton _ _, fun t h => by rw [List.mem_singleton.1 h]; exact ok_e⟩
theorem of_e : ofS eT = eS := by
  unfold ofS
  rw [if_neg (by decide +kernel)]
  exact normS_id eS_nm
theorem first_has (l : List Rg) (t : Tx) : hasS (firstS l) t = hasS ⟨l, l, []⟩ t := by
  unfold hasS memS firstS
  simp only [norm_has]
theorem ones_has (l : List Rg) (t : Tx) : hasS (onesS l) t = hasS ⟨l, [], []⟩ t := by
  unfold hasS memS onesS
  simp only [norm_has]
theorem m1 : hasS (firstS az) [101, 120] = true := by rw [first_has]; decide +kernel
theorem m2 : hasS (firstS az) [69] = false := by rw [first_has]; decide +kernel
theorem m3 : hasS (not2 eS) xT = true := by rw [not2_mem _ good_x]; decide +kernel
theorem m4 : hasS (not2 eS) eT = false := by rw [not2_mem _ good_e]; decide +kernel
theorem m5 : hasS (minus2 (firstS az) eS) [101] = true := by rw [minus2_mem _ _ (by decide +kernel), first_has]; decide +kernel
theorem m6 : hasS (minus2 (firstS az) eS) eT = false := by rw [minus2_mem _ _ good_e, first_has]; decide +kernel
theorem m7 : hasS allS [] = false := rfl
theorem m8 : decide (normS (not2 eS) = not2 eS) = true := decide_eq_true (normS_id (not2_nm _))
theorem notnot {a : St} : not2 (not2 a) = normS a := by
  refine st_ext (not2_nm _) (normS_nm a) (fun x => ?_) (fun x => ?_) (fun t => ?_)
  · rw [not2_s, not2_s, normS_s]
    cases hx : inR x with
    | true => cases has a.s x <;> rfl
    | false => rw [has_out hx]; rfl
  · rw [not2_m, not2_m, normS_m]
    cases hx : inR x with
    | true => cases has a.m x <;> rfl
    | false => rw [has_out hx]; rfl
  · rw [not2_o, not2_o, normS_o, Bool.and_assoc, Bool.and_self]
theorem m9 : eqS (not2 (not2 eS)) eS = true := by
  unfold eqS
  rw [notnot, normS_id (normS_nm _), decide_eq_true_eq]
theorem norm_none : normS none_ = none_ := normS_id none_nm
theorem m10 : (normS eS).o ≠ [] := by rw [normS_id eS_nm]; simp [eS]
theorem m11 : hasS (onesS az) [97] = true := by rw [ones_has]; decide +kernel
theorem m12 : hasS (uni2 eS (minus2 (firstS az) eS)) eT = true := by
  have h : hasS eS eT = true := by decide +kernel
  rw [uni2_has _ _ good_e, h]
  rfl
theorem m13 : hasS (meet2 (firstS az) eS) eT = true := by rw [meet2_mem _ _ good_e, first_has]; decide +kernel
theorem m14 : (normS eS).o.length = 1 := by rw [normS_id eS_nm]; rfl
end Go.Proofs.YtipcbiecdabihaaGreat.Sset
