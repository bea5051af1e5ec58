/-
  Texts of stage 7, part 19.
-/
import Derived.Deep.Strs
import Derived.Lib.SmallJoins
import Derived.Test.YtkgeiokckfpjlaaGreatDoorM9
import Derived.Test.YtkgeiokckfpjlaaGreatDoorM18
namespace Go.Proofs.YtkgeiokckfpjlaaGreatDoor.Sset
open Go.ChangeShapes Go.WideShapes Go.ChangeAt Go.RowKit Go.Deep
open Utf (Rd Blk)
open Rset
set_option maxRecDepth 100000
theorem bulk_mem {H:Type} {l:List (DataW H)} {d:DataW H} (h:d∈l):Rows.uptoBulk d≤Rows.uptoBulkAll l:=by
 induction l with
 | nil=>simp at h
 | cons x r ih =>
  simp only [Rows.uptoBulkAll]
  rcases List.mem_cons.1 h with rfl | h
  ·omega
  ·have:=ih h;omega
theorem open_texts {H:Type} {enc:TypeId × Value→H} {W:World} {a0:Option Addr} {len cap:Nat} {d:DataW H} {p:List MemPlace}
  (h:DataW.Trod enc Tryz.prog W 0 (fun _=>true) true 32 (.slice a0 len cap) d p) :
  ∃l:List Tx,l.length=len∧len≤cap∧cap≤9223372036854775807∧Rd W W.heap.size a0 (txs l)∧(∀t∈l,t.length≤Rows.uptoBulk d)∧len≤Rows.uptoBulk d:=by
 obtain ⟨fuel,hf⟩:=h
 rcases open_strs Tryz.underlying32 Tryz.underlying9 (by kernel_rfl) hf with ⟨hcs,hx⟩ | ⟨x,l,c,m,Sx,hcs,_,hl,hm,hmm,hx,hi⟩
 ·simp [Value.cells] at hcs
  obtain ⟨rfl,rfl,rfl⟩:=hcs
  exact ⟨[],rfl,Nat.le_refl _,by omega,Rd.empty _ _ _,fun _ h=>by simp at h,Nat.zero_le _⟩
 ·simp [Value.cells] at hcs
  obtain ⟨rfl,rfl,rfl⟩:=hcs
  simp only [if_true] at hmm
  simp only [Prod.mk.injEq] at hx
  have hlen:((List.range len).map fun i=>(Sx i).data.toList).length=len:=by simp
  refine ⟨(List.range len).map fun i=>(Sx i).data.toList,hlen,hl,by simpa [maxLen] using hm,fun hne=>?_,fun t ht=>?_,?_⟩
  ·have h0:0 < len:=by
    rcases Nat.eq_zero_or_pos len with h | h
    ·subst h;exact absurd rfl hne
    ·exact h
   obtain ⟨b,o,spot⟩:=x
   have hc0:=(hi 0 (by omega)).1
   have hspot:spot=none:=by simpa [Addr.add] using World.cell?_spot hc0
   subst hspot
   have hc0':W.cell? ⟨b,o,none⟩=some (.string (Sx 0)):=by simpa [Addr.add] using hc0
   refine ⟨b,o,rfl,World.block_lt_of_cell? W _ hc0',fun j u hj=>?_⟩
   have hjl:j < len:=by have:=(List.getElem?_eq_some_iff.1 hj).1;rw [txs_len,hlen] at this;exact this
   have hcj:=(hi j (by omega)).1
   rw [add_lit] at hcj
   rw [hcj,←hj,txs_get (by rw [hlen];exact hjl)]
   simp
  ·obtain ⟨i,hi2,rfl⟩:=List.mem_map.1 ht
   have hm2:DataW.lit (H:=H) (.string (Sx i).data.toList)∈(List.range len).map fun i=>DataW.lit (.string (Sx i).data.toList):=List.mem_map.2 ⟨i,hi2,rfl⟩
   have:=bulk_mem hm2
   rw [hx.1]
   simp only [Rows.uptoBulk] at this ⊢
   omega
  ·rw [hx.1]
   have:=bulk_len ((List.range len).map fun i=>DataW.lit (H:=H) (.string (Sx i).data.toList))
   rw [List.length_map,List.length_range] at this
   simp only [Rows.uptoBulk]
   omega
theorem setFields:Tryz.prog.underlying 39=some (.struct (Tryz.prog.fieldsOf 39)):=by kernel_rfl
end Go.Proofs.YtkgeiokckfpjlaaGreatDoor.Sset
