/-
  ARGUMENTS OPENED: a slice of texts, a set.
-/
import Derived.Test.YtipcbiecdabihaaGreatSsetRes
import Derived.Test.YtipcbiecdabihaaGreatRsetOpen
import Derived.Deep.Strs
import Derived.Lib.SmallJoins
namespace Go.Proofs.YtipcbiecdabihaaGreat.Sset
open Go.ChangeShapes Go.WideShapes Go.ChangeAt Go.RowKit Go.Deep
open Utf (Rd Blk)
open Rset
set_option maxRecDepth 100000

theorem bulk_mem {H : Type} {l : List (DataW H)} {d : DataW H} (h : d ∈ l) : Rows.uptoBulk d ≤ Rows.uptoBulkAll l := by
  induction l with
  | nil => simp at h
  | cons x r ih =>
    simp only [Rows.uptoBulkAll]
    rcases List.mem_cons.1 h with rfl | h
    · omega
    · have := ih h; omega
theorem open_texts {H : Type} {enc : TypeId × Value → H} {W : World} {a0 : Option Addr} {len cap : Nat} {d : DataW H} {p : List MemPlace}
    (h : DataW.Trod enc Tryz.prog W 0 (fun _ => true) true 23 (.slice a0 len cap) d p) :
    ∃ l : List Tx, l.length = len ∧ len ≤ cap ∧ cap ≤ 9223372036854775807 ∧ Rd W W.heap.size a0 (txs l) ∧ (∀ t ∈ l, t.length ≤ Rows.uptoBulk d) ∧ len ≤ Rows.uptoBulk d := by
  obtain ⟨fuel, hf⟩ := h
  rcases open_strs Tryz.underlying23 Tryz.underlying9 (by kernel_rfl) hf with ⟨hcs, hx⟩ | ⟨x, l, c, m, Sx, hcs, _, hl, hm, hmm, hx, hi⟩
  · simp [Value.cells] at hcs
    obtain ⟨rfl, rfl, rfl⟩ := hcs
    exact ⟨[], rfl, Nat.le_refl _, by omega, Rd.empty _ _ _, fun _ h => by simp at h, Nat.zero_le _⟩
  · simp [Value.cells] at hcs
    obtain ⟨rfl, rfl, rfl⟩ := hcs
    simp only [if_true] at hmm
    simp only [Prod.mk.injEq] at hx
    have hlen : ((List.range len).map fun i => (Sx i).data.toList).length = len := by simp
    refine ⟨(List.range len).map fun i => (Sx i).data.toList, hlen, hl, by simpa [maxLen] using hm, fun hne => ?_, fun t ht => ?_, ?_⟩
    · have h0 : 0 < len := by
        rcases Nat.eq_zero_or_pos len with h | h
        · subst h; exact absurd rfl hne
        · exact h
      obtain ⟨b, o, spot⟩ := x
      have hc0 := (hi 0 (by omega)).1
      have hspot : spot = none := by simpa [Addr.add] using World.cell?_spot hc0
      subst hspot
      have hc0' : W.cell? ⟨b, o, none⟩ = some (.string (Sx 0)) := by simpa [Addr.add] using hc0
      refine ⟨b, o, rfl, World.block_lt_of_cell? W _ hc0', fun j u hj => ?_⟩
      have hjl : j < len := by have := (List.getElem?_eq_some_iff.1 hj).1; rw [txs_len, hlen] at this; exact this
      have hcj := (hi j (by omega)).1
      rw [add_lit] at hcj
      rw [hcj, ← hj, txs_get (by rw [hlen]; exact hjl)]
      simp
    · obtain ⟨i, hi2, rfl⟩ := List.mem_map.1 ht
      have hm2 : DataW.lit (H := H) (.string (Sx i).data.toList) ∈ (List.range len).map fun i => DataW.lit (.string (Sx i).data.toList) := List.mem_map.2 ⟨i, hi2, rfl⟩
      have := bulk_mem hm2
      rw [hx.1]
      simp only [Rows.uptoBulk] at this ⊢
      omega
    · rw [hx.1]
      have := bulk_len ((List.range len).map fun i => DataW.lit (H := H) (.string (Sx i).data.toList))
      rw [List.length_map, List.length_range] at this
      simp only [Rows.uptoBulk]
      omega
theorem setFields : Tryz.prog.underlying 25 = some (.struct (Tryz.prog.fieldsOf 25)) := by kernel_rfl
/-- a set that came in -/
theorem open_set {H : Type} {enc : TypeId × Value → H} {W : World} {b0 : Nat} {v : Value} {d : DataW H} {p : List MemPlace} (hv : Value.okWide Tryz.prog W .any b0 25 v)
    (h : DataW.Trod enc Tryz.prog W 0 (fun _ => true) true 25 v d p) (hb : Rows.uptoBulk d ≤ 1048576) :
    ∃ A1 n1 c1 A2 n2 c2 A3 n3 c3 a, v = .agg #[.slice A1 n1 c1, .slice A2 n2 c2, .slice A3 n3 c3] ∧ Has3 W A1 n1 A2 n2 A3 n3 a ∧ n1 ≤ 1048576 ∧ n2 ≤ 1048576 ∧ n3 ≤ 1048576 := by
  obtain ⟨v0, v1, v2, y0, y1, y2, n, rfl, rfl, rfl, t0, t1, t2⟩ := Go.Joins.open_agg3 Tryz.underlying25 (by kernel_rfl) (by kernel_rfl) hv h
  have f0 : ∃ A1 n1 c1, v0 = .slice A1 n1 c1 := by
    rcases open_slice_pairs Tryz.underlying22 Tryz.underlying38 (by kernel_rfl) rfl rfl (by kernel_rfl) (by kernel_rfl) t0 with ⟨hcs, _⟩ | ⟨x, l, c, _, _, _, _, _, _, _, _, hcs, _⟩
    · simp at hcs; exact ⟨_, _, _, hcs⟩
    · simp at hcs; exact ⟨_, _, _, hcs⟩
  have f1 : ∃ A1 n1 c1, v1 = .slice A1 n1 c1 := by
    rcases open_slice_pairs Tryz.underlying22 Tryz.underlying38 (by kernel_rfl) rfl rfl (by kernel_rfl) (by kernel_rfl) t1 with ⟨hcs, _⟩ | ⟨x, l, c, _, _, _, _, _, _, _, _, hcs, _⟩
    · simp at hcs; exact ⟨_, _, _, hcs⟩
    · simp at hcs; exact ⟨_, _, _, hcs⟩
  have f2 : ∃ A1 n1 c1, v2 = .slice A1 n1 c1 := by
    rcases open_strs Tryz.underlying23 Tryz.underlying9 (by kernel_rfl) t2 with ⟨hcs, _⟩ | ⟨x, l, c, _, _, hcs, _⟩
    · simp at hcs; exact ⟨_, _, _, hcs⟩
    · simp at hcs; exact ⟨_, _, _, hcs⟩
  obtain ⟨A1, n1, c1, rfl⟩ := f0
  obtain ⟨A2, n2, c2, rfl⟩ := f1
  obtain ⟨A3, n3, c3, rfl⟩ := f2
  obtain ⟨l1, e1, _, _, g1, r1, k1⟩ := open_rgs (d := y0.1) (p := y0.2) ⟨n, by simpa [Value.cells] using t0⟩
  obtain ⟨l2, e2, _, _, g2, r2, k2⟩ := open_rgs (d := y1.1) (p := y1.2) ⟨n, by simpa [Value.cells] using t1⟩
  obtain ⟨l3, e3, _, _, r3, g3, k3⟩ := open_texts (d := y2.1) (p := y2.2) ⟨n, by simpa [Value.cells] using t2⟩
  simp only [Rows.uptoBulk, Rows.uptoBulkAll] at hb
  exact ⟨A1, n1, c1, A2, n2, c2, A3, n3, c3, ⟨l1, l2, l3⟩, rfl, ⟨⟨r1, e1, g1, by omega⟩, ⟨r2, e2, g2, by omega⟩, ⟨r3, e3, fun t ht => by have := g3 t ht; omega, by omega⟩⟩, by omega, by omega, by omega⟩
theorem argT_texts {W : World} {a0 : Option Addr} {len : Nat} {l : List Tx} {B : Nat} (hl : l.length = len) (hr : Rd W W.heap.size a0 (txs l)) (ht : ∀ t ∈ l, t.length ≤ B) (hn : len ≤ B) (hb : B ≤ 1048576) : ArgT W a0 len l := ⟨hr, hl, fun t h => by have := ht t h; omega, by omega⟩
end Go.Proofs.YtipcbiecdabihaaGreat.Sset
