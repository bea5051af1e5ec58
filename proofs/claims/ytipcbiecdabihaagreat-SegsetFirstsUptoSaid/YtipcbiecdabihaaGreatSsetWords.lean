/-
  TEXTS AND SETS AS CELLS; texts turned to bytes; what a call that makes a set leaves.
-/
import Derived.Test.YtipcbiecdabihaaGreatSsetMath
import Derived.Test.YtipcbiecdabihaaGreatUtfDecode
import Derived.Test.YtipcbiecdabihaaGreatRsetWords
import Derived.Sort.EncStr
import Derived.Laws.IdiomStrings
import Derived.Sort.Walk0
namespace Go.Proofs.YtipcbiecdabihaaGreat.Sset
open Go.RowKit
open Utf (Rd Blk bys bys_len pts pts_len wpList_append_rd own_ne)
open Rset
set_option maxRecDepth 100000

def txs (l : List Tx) : List Value := l.map encStr
theorem txs_len (l : List Tx) : (txs l).length = l.length := List.length_map _
theorem txs_append (l m : List Tx) : txs (l ++ m) = txs l ++ txs m := List.map_append
theorem txs_get {l : List Tx} {k : Nat} (h : k < l.length) : (txs l)[k]? = some (encStr l[k]) := by simp [txs, List.getElem?_eq_getElem h]
theorem txs_take (l : List Tx) (k : Nat) : (txs l).take k = txs (l.take k) := List.map_take.symm
theorem txs_drop (l : List Tx) (k : Nat) : (txs l).drop k = txs (l.drop k) := List.map_drop.symm
theorem txs_one (l : List Tx) : ∀ u ∈ txs l, u.oneCell' = true := by intro u hu; simp only [txs, List.mem_map] at hu; obtain ⟨n, _, rfl⟩ := hu; rfl
theorem txs_set (l : List Tx) (k : Nat) (x : Tx) : (txs l).set k (encStr x) = txs (l.set k x) := by simp [txs, List.map_set]
theorem mk_toList (l : Tx) : (⟨l.toArray⟩ : ByteArray).toList = l := by rw [ByteArray.toList_eq]
theorem toList_mk {X : ByteArray} {x : Tx} (h : X.toList = x) : X = ⟨x.toArray⟩ := by
  rw [ByteArray.toList_eq] at h
  apply ByteArray.ext
  rw [← h, Array.toArray_toList]
theorem size_of {X : ByteArray} {x : Tx} (h : X.toList = x) : X.size = x.length := by
  rw [toList_mk h]; rfl
section
variable {w w' : World} {B : Nat}
theorem rd_tx {l : List Tx} {b o : Nat} (h : Rd w B (some ⟨b, o, none⟩) (txs l)) {k : Nat} (hk : k < l.length) : w.cell? ⟨b, o + k, none⟩ = some (encStr l[k]) := by
  obtain ⟨b', o', e, _, hc⟩ := h (by intro e; have := congrArg List.length e; rw [txs_len, List.length_nil] at this; omega)
  simp only [Option.some.injEq, Addr.mk.injEq, and_true] at e
  obtain ⟨rfl, rfl⟩ := e
  exact hc _ _ (txs_get hk)
theorem rd_form_tx {l : List Tx} {A : Option Addr} (h : Rd w B A (txs l)) (hn : 0 < l.length) : ∃ b o, A = some ⟨b, o, none⟩ ∧ b < B := h.form (by rw [txs_len]; exact hn)
end
theorem infoStr : (Tryz.prog.info? 9).map (fun i => (i.zero, i.size, i.bytes)) = some (some (.string ⟨#[]⟩), 1, 16) := by kernel_rfl
theorem infoU8 : (Tryz.prog.info? 5).map (fun i => (i.zero, i.size, i.bytes)) = some (some (.int .u8 0), 1, 1) := by kernel_rfl

/-- a text turned to bytes: new memory -/
theorem conv_str (w : World) (X : ByteArray) (x : Tx) (hX : X.toList = x) (n : Nat) (hn : x.length = n) (hb : n ≤ 1099511627770) :
    ∃ (g C : Nat) (W1 : World), (convert 9 46 (.string X)).run Tryz.prog w = .ok (.slice (some ⟨g, 0, none⟩) n C) W1 ∧ Rd W1 W1.heap.size (some ⟨g, 0, none⟩) (bys x) ∧ Below w.heap.size w W1 ∧ n ≤ C ∧ C ≤ 9223372036854775807 := by
  have hs : X.size = n := by rw [size_of hX, hn]
  have hd : X.data.toList = x := by rw [← ByteArray.toList_eq]; exact hX
  have h := run_bytes_of_string (P := Tryz.prog) w 9 46 5 X Tryz.underlying9 Tryz.underlying46 Tryz.underlying5
  rw [hs] at h
  have hge := grownCap_ge w n 0 5
  have hle := grownCap_le_maxLen w n 0 5 (by unfold maxLen; omega)
  unfold maxLen at hle
  refine ⟨_, _, _, h, ?_, ((Below.refl _ _).drew).alloc (Nat.le_refl _) _, by omega, by omega⟩
  generalize grownCap w n 0 5 = C at *
  intro _
  refine ⟨w.heap.size, 0, rfl, by simp, fun j v hv => ?_⟩
  have hc : bytesRow X C = (bys x ++ List.replicate (C - n) (Value.int .u8 0)).toArray := by
    unfold bytesRow bys
    rw [hs, ← hd]
    simp
  rw [hc]
  have hh : (w.drew.alloc (.cells (bys x ++ List.replicate (C - n) (Value.int .u8 0)).toArray 5 ((bys x ++ List.replicate (C - n) (Value.int .u8 0)).toArray.size, (bys x ++ List.replicate (C - n) (Value.int .u8 0)).toArray.size + 1))).heap[w.heap.size]? = some (.cells (bys x ++ List.replicate (C - n) (Value.int .u8 0)).toArray 5 ((bys x ++ List.replicate (C - n) (Value.int .u8 0)).toArray.size, (bys x ++ List.replicate (C - n) (Value.int .u8 0)).toArray.size + 1)) := by
    show (w.heap.push _)[w.heap.size]? = _
    simp
  rw [cell_of_row _ _ _ _ _ _ hh, Nat.zero_add]
  have hj : j < (bys x).length := (List.getElem?_eq_some_iff.1 hv).1
  simp only [List.getElem?_toArray]
  rw [List.getElem?_append_left hj]
  exact hv
theorem str_of (l : List UInt8) : strOfNums (l.map fun b => (b.toNat : Int)) = ⟨l.toArray⟩ := by
  unfold strOfNums
  simp only [List.map_map]
  congr 1
  have : (fun n : Int => UInt8.ofNat n.toNat) ∘ (fun b : UInt8 => (b.toNat : Int)) = id := by funext b; simp
  rw [this, List.map_id]
theorem conv_rd {w : World} {B : Nat} {A : Option Addr} {n c : Nat} {l : List UInt8} (h : Rd w B A (bys l)) (hn : l.length = n) :
    (convert 46 9 (.slice A n c)).run Tryz.prog w = .ok (.string ⟨l.toArray⟩) w := by
  by_cases hl : l = []
  · subst hl
    have hn' : n = 0 := by simpa using hn.symm
    subst hn'
    cases A with
    | none => exact run_convert_bytes_nil w _ _ Tryz.underlying46 Tryz.underlying5 0 c _ Tryz.underlying9
    | some ad =>
      rw [run_convert_bytes_string w _ _ _ _ _ _ Tryz.underlying46 Tryz.underlying5 Tryz.underlying9, run_bytesToString w ad 0 c [] rfl]
      rfl
  · have hp : 0 < l.length := List.length_pos_iff.2 hl
    obtain ⟨b, o, rfl, _⟩ := h.form (by rw [bys_len]; exact hp)
    rw [run_convert_bytes_arg w _ _ Tryz.underlying46 Tryz.underlying5 b o n c (l.map fun b => (b.toNat : Int)) (by simpa using hn) (fun i hi => by
      have := h.byte (k := i) (by omega)
      rw [this]; simp [List.getD, List.getElem?_eq_getElem (show i < l.length by omega)]) _ Tryz.underlying9, str_of]

/-! ### sets in memory -/
/-- a list of texts that can be read -/
structure ArgT (w : World) (A : Option Addr) (n : Nat) (l : List Tx) : Prop where
  rd : Rd w w.heap.size A (txs l)
  len : l.length = n
  short : Short l
  sm : n ≤ 1073741824
theorem ArgT.next {w w' : World} {A : Option Addr} {n : Nat} {l : List Tx} (h : ArgT w A n l) (hb : Below w.heap.size w w') : ArgT w' A n l := ⟨(h.rd.below hb).more hb.size, h.len, h.short, h.sm⟩
/-- a list of ranges that can be read -/
structure ArgR (w : World) (A : Option Addr) (n : Nat) (l : List Rg) : Prop where
  rd : Rd w w.heap.size A (rgs l)
  len : l.length = n
  fit : Fit l
  sm : n ≤ 8388608
theorem ArgR.next {w w' : World} {A : Option Addr} {n : Nat} {l : List Rg} (h : ArgR w A n l) (hb : Below w.heap.size w w') : ArgR w' A n l := ⟨(h.rd.below hb).more hb.size, h.len, h.fit, h.sm⟩
/-- a set that can be read -/
structure Has3 (w : World) (A1 : Option Addr) (n1 : Nat) (A2 : Option Addr) (n2 : Nat) (A3 : Option Addr) (n3 : Nat) (a : St) : Prop where
  s : ArgR w A1 n1 a.s
  m : ArgR w A2 n2 a.m
  o : ArgT w A3 n3 a.o
theorem Has3.next {w w' : World} {A1 A2 A3 : Option Addr} {n1 n2 n3 : Nat} {a : St} (h : Has3 w A1 n1 A2 n2 A3 n3 a) (hb : Below w.heap.size w w') : Has3 w' A1 n1 A2 n2 A3 n3 a := ⟨h.s.next hb, h.m.next hb, h.o.next hb⟩
/-- the same, of a value -/
def ArgS (w : World) (v : Value) (a : St) : Prop := ∃ A1 n1 c1 A2 n2 c2 A3 n3 c3, v = .agg #[.slice A1 n1 c1, .slice A2 n2 c2, .slice A3 n3 c3] ∧ Has3 w A1 n1 A2 n2 A3 n3 a
theorem ArgS.next {w w' : World} {v : Value} {a : St} (h : ArgS w v a) (hb : Below w.heap.size w w') : ArgS w' v a := by
  obtain ⟨A1, n1, c1, A2, n2, c2, A3, n3, c3, rfl, h⟩ := h
  exact ⟨A1, n1, c1, A2, n2, c2, A3, n3, c3, rfl, h.next hb⟩
/-- a set that lies in memory of the call's own -/
def OwnS (w : World) (a : St) (e : Ending) (w' : World) : Prop := ∃ v1 v2 v3, e = .returned (.agg #[v1, v2, v3]) ∧ w'.ownsRow w.heap.size 38 2 v1 a.s.length (rgs a.s) ∧ w'.ownsRow w.heap.size 38 2 v2 a.m.length (rgs a.m) ∧ w'.ownsRow w.heap.size 9 1 v3 a.o.length (txs a.o) ∧ Below w.heap.size w w'
/-- a set that the call made -/
def ResS (w : World) (a : St) (e : Ending) (w' : World) : Prop := ∃ A1 n1 c1 A2 n2 c2 A3 n3 c3, e = .returned (.agg #[.slice A1 n1 c1, .slice A2 n2 c2, .slice A3 n3 c3]) ∧ Has3 w' A1 n1 A2 n2 A3 n3 a ∧ Below w.heap.size w w'
theorem argR_own {w : World} {B n : Nat} {v : Value} {l : List Rg} (h : w.ownsRow B 38 2 v n (rgs l)) (hl : l.length = n) (hN : Nm l) : ∃ A c, v = .slice A n c ∧ ArgR w A n l := by
  obtain ⟨A, c, rfl, _, _, hr⟩ := own_form h
  exact ⟨A, c, rfl, hr, hl, hN.fit, by have := nm_len hN; omega⟩
theorem argT_own {w : World} {B n : Nat} {v : Value} {l : List Tx} (h : w.ownsRow B 9 1 v n (txs l)) (hl : l.length = n) (hS : Short l) (hsm : n ≤ 1073741824) : ∃ A c, v = .slice A n c ∧ ArgT w A n l := by
  obtain ⟨A, c, rfl, _, _, hr⟩ := own_form h
  exact ⟨A, c, rfl, hr, hl, hS, hsm⟩
theorem OwnS.res {w w' : World} {a : St} {e : Ending} (h : OwnS w a e w') (hN : NmS a) (hS : Short a.o) (hsm : a.o.length ≤ 1073741824) : ResS w a e w' := by
  obtain ⟨v1, v2, v3, rfl, h1, h2, h3, hb⟩ := h
  obtain ⟨A1, c1, rfl, k1⟩ := argR_own h1 rfl hN.s
  obtain ⟨A2, c2, rfl, k2⟩ := argR_own h2 rfl hN.m
  obtain ⟨A3, c3, rfl, k3⟩ := argT_own h3 rfl hS hsm
  exact ⟨_, _, _, _, _, _, _, _, _, rfl, ⟨k1, k2, k3⟩, hb⟩
theorem Has3.cast {w : World} {A1 A2 A3 : Option Addr} {n1 n2 n3 : Nat} {a b : St} (h : Has3 w A1 n1 A2 n2 A3 n3 a) (e : a = b) : Has3 w A1 n1 A2 n2 A3 n3 b := e ▸ h
end Go.Proofs.YtipcbiecdabihaaGreat.Sset
