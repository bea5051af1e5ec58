/-
  Texts of stage 7, part 33.
-/
import Derived.Test.YtegdbmbenjnacaaGreatRows
import Derived.Deep.SlicePairs
import Derived.ProofKit
import Derived.OpenShut
import Derived.JoinedCond
import Derived.ChangeOld
import Derived.Below
import Derived.SizedLaws
import Derived.Test.YtegdbmbenjnacaaGreatR8
namespace Go.Proofs.YtegdbmbenjnacaaGreat.Rset
open Go.ChangeShapes Go.WideShapes Go.ChangeAt Go.RowKit Go.Deep
open Utf (Rd Blk nums)
set_option maxRecDepth 100000
theorem bulk_one {H:Type} (d:DataW H):1≤Rows.uptoBulk d:=by
 cases d with
 | lit l=>cases l <;> simp [Rows.uptoBulk]
 | nil=>simp [Rows.uptoBulk]
 | ptr d=>simp [Rows.uptoBulk]
 | slice elems spare=>simp [Rows.uptoBulk]
 | agg parts=>simp [Rows.uptoBulk]
 | iface t d=>simp [Rows.uptoBulk]
 | map entries=>simp [Rows.uptoBulk]
 | held h=>simp [Rows.uptoBulk]
theorem bulk_len {H:Type} (l:List (DataW H)):l.length≤Rows.uptoBulkAll l:=by
 induction l with
 | nil=>simp [Rows.uptoBulkAll]
 | cons x r ih=>have:=bulk_one x;simp only [Rows.uptoBulkAll,List.length_cons];omega
theorem i32_bounds {n:Int} (h:(Lit.int .i32 n).wf=true):-2147483648≤n∧n≤2147483647:=by simpa [Lit.wf,IntKind.min,IntKind.max,IntKind.signed,IntKind.bits] using h
theorem add_lit (b o k:Nat):(⟨b,o,none⟩:Addr).add k=⟨b,o+k,none⟩:=by unfold Addr.add;split <;> simp_all
theorem open_rgs {H:Type} {enc:TypeId × Value→H} {W:World} {a0:Option Addr} {len cap:Nat} {d:DataW H} {p:List MemPlace}
  (h:DataW.Trod enc Tryz.prog W 0 (fun _=>true) true 72 (.slice a0 len cap) d p) :
  ∃l:List Rg,l.length=len∧len≤cap∧cap≤9223372036854775807∧Fit l∧Rd W W.heap.size a0 (rgs l)∧len≤Rows.uptoBulk d:=by
 obtain ⟨fuel,hf⟩:=h
 rcases open_slice_pairs Tryz.underlying72 Tryz.underlying141 (by kernel_rfl) rfl rfl (by kernel_rfl) (by kernel_rfl) hf with ⟨hcs,hx⟩ | ⟨x,l,c,m,n,V0,V1,D0,D1,P0,P1,hcs,_,hl,hm,hmm,hx,hi⟩
 ·simp [Value.cells] at hcs
  obtain ⟨rfl,rfl,rfl⟩:=hcs
  exact ⟨[],rfl,Nat.le_refl _,by omega,fun _ h=>by simp at h,Rd.empty _ _ _,Nat.zero_le _⟩
 ·simp [Value.cells] at hcs
  obtain ⟨rfl,rfl,rfl⟩:=hcs
  simp only [if_true] at hmm
  simp only [Prod.mk.injEq] at hx
  have each:∀i,i < cap→∃r:Rg,W.cell? (x.add (i*2))=some (.int .i32 r.1)∧W.cell? (x.add (i*2+1))=some (.int .i32 r.2)∧(-2147483648≤r.1∧r.1≤2147483647)∧-2147483648≤r.2∧r.2≤2147483647:=by
   intro i him
   obtain ⟨h0,h1,t0,t1⟩:=hi i (by omega)
   obtain ⟨n0,e0,_,w0⟩:=DataW.trod_int Tryz.underlying21 t0
   obtain ⟨n1,e1,_,w1⟩:=DataW.trod_int Tryz.underlying21 t1
   simp only [List.cons.injEq,and_true] at e0 e1
   exact ⟨(n0,n1),e0 ▸ h0,e1 ▸ h1,i32_bounds w0,i32_bounds w1⟩
  have ex:∃L:List Rg,L.length=len∧Fit L∧∀(i:Nat) (h:i < L.length),W.cell? (x.add (i*2))=some (.int .i32 L[i].1)∧W.cell? (x.add (i*2+1))=some (.int .i32 L[i].2):=by
   have:∀k,k≤cap→∃L:List Rg,L.length=k∧Fit L∧∀(i:Nat) (h:i < L.length),W.cell? (x.add (i*2))=some (.int .i32 L[i].1)∧W.cell? (x.add (i*2+1))=some (.int .i32 L[i].2):=by
    intro k
    induction k with
    | zero=>intro _;exact ⟨[],rfl,fun _ h=>by simp at h,fun i h=>by simp at h⟩
    | succ k ih =>
     intro hk
     obtain ⟨L,h1,h2,h3⟩:=ih (by omega)
     obtain ⟨r,r1,r2,r3,r4⟩:=each k (by omega)
     refine ⟨L++[r],by rw [List.length_append,h1];rfl,fun q hq=>?_,fun i h=>?_⟩
     ·rcases List.mem_append.1 hq with hq | hq
      ·exact h2 q hq
      ·rw [List.mem_singleton.1 hq];exact ⟨r3,r4⟩
     ·by_cases hi:i < L.length
      ·rw [List.getElem_append_left hi];exact h3 i hi
      ·have e:i=k:=by rw [List.length_append] at h;simp at h;omega
       subst e
       rw [List.getElem_append_right (by omega)]
       simp only [h1,Nat.sub_self,List.getElem_cons_zero]
       exact ⟨r1,r2⟩
   exact this len hl
  obtain ⟨L,h1,h2,h3⟩:=ex
  refine ⟨L,h1,hl,by simpa [maxLen] using hm,h2,fun hne=>?_,?_⟩
  ·have h0:0 < L.length:=by
    rcases Nat.eq_zero_or_pos L.length with h | h
    ·have:L=[]:=List.eq_nil_of_length_eq_zero h
     subst this;exact absurd rfl hne
    ·exact h
   obtain ⟨b,o,spot⟩:=x
   have hc0:=(h3 0 h0).1
   have hspot:spot=none:=by simpa [Addr.add] using World.cell?_spot hc0
   subst hspot
   have hc0':W.cell? ⟨b,o,none⟩=some (.int .i32 L[0].1):=by simpa [Addr.add] using hc0
   refine ⟨b,o,rfl,World.block_lt_of_cell? W _ hc0',fun j u hj=>?_⟩
   have hjl:j < (rgs L).length:=(List.getElem?_eq_some_iff.1 hj).1
   rw [rgs_len] at hjl
   obtain ⟨g1,g2⟩:=rgs_get L (k:=j / 2) (by omega)
   obtain ⟨k1,k2⟩:=h3 (j / 2) (by omega)
   rw [add_lit] at k1 k2
   rcases Nat.mod_two_eq_zero_or_one j with hm2 | hm2
   ·have e:j / 2*2=j:=by omega
    rw [e] at g1 k1
    rw [g1] at hj;injection hj with hj;rw [k1,hj]
   ·have e:j / 2*2+1=j:=by omega
    rw [e] at g2 k2
    rw [g2] at hj;injection hj with hj;rw [k2,hj]
  ·rw [hx.1]
   have:=bulk_len ((List.range len).map fun i=>DataW.agg [D0 i,D1 i])
   rw [List.length_map,List.length_range] at this
   simp only [Rows.uptoBulk]
   omega
end Go.Proofs.YtegdbmbenjnacaaGreat.Rset
