/-
  CONTRACT OF fixed: the chapter's examples come out true, in whatever world.
-/
import Derived.Test.YtochodombojamaaDoorUtfWrites
import Derived.Test.YtochodombojamaaDoorUtfPuts
namespace Go.Proofs.YtochodombojamaaDoor.Utf
open Go.RowKit
set_option maxRecDepth 100000

theorem str_of (l : List UInt8) : strOfNums (l.map fun b => (b.toNat : Int)) = ⟨l.toArray⟩ := by
  unfold strOfNums
  simp only [List.map_map]
  congr 1
  have : (fun n : Int => UInt8.ofNat n.toNat) ∘ (fun b : UInt8 => (b.toNat : Int)) = id := by funext b; simp
  rw [this, List.map_id]
theorem conv_rd {w : World} {B : Nat} {A : Option Addr} {n c : Nat} {l : List UInt8} (h : Rd w B A (bys l)) (hn : l.length = n) :
    (convert 36 9 (.slice A n c)).run Tryd.prog w = .ok (.string ⟨l.toArray⟩) w := by
  by_cases hl : l = []
  · subst hl
    have hn' : n = 0 := by simpa using hn.symm
    subst hn'
    cases A with
    | none => exact run_convert_bytes_nil w _ _ Tryd.underlying36 Tryd.underlying5 0 c _ Tryd.underlying9
    | some ad =>
      rw [run_convert_bytes_string w _ _ _ _ _ _ Tryd.underlying36 Tryd.underlying5 Tryd.underlying9, run_bytesToString w ad 0 c [] rfl]
      rfl
  · have hp : 0 < l.length := List.length_pos_iff.2 hl
    obtain ⟨b, o, rfl, _⟩ := h.form (by rw [bys_len]; exact hp)
    rw [run_convert_bytes_arg w _ _ Tryd.underlying36 Tryd.underlying5 b o n c (l.map fun b => (b.toNat : Int)) (by simpa using hn) (fun i hi => by
      have := h.byte (k := i) (by omega)
      rw [this]; simp [List.getD, List.getElem?_eq_getElem (show i < l.length by omega)]) _ Tryd.underlying9, str_of]

theorem own_form {w : World} {base : Nat} {e : TypeId} {size n : Nat} {v : Value} {xs : List Value} (h : w.ownsRow base e size v n xs) : ∃ A c, v = .slice A n c ∧ n ≤ c ∧ c ≤ 9223372036854775807 ∧ Rd w w.heap.size A xs := by
  have h2 := h.2
  rcases h2 with ⟨rfl, rfl⟩ | ⟨g, cap, cur, rfl, _, _, h1, h2, _⟩
  · exact ⟨none, 0, rfl, Nat.le_refl _, by omega, Rd.of_own h⟩
  · exact ⟨_, cap, rfl, h1, h2, Rd.of_own h⟩

end Go.Proofs.YtochodombojamaaDoor.Utf
