/-
  Texts of stage 7, part 25.
-/
import Derived.Deep.SlicePairs
import Derived.Test.YtdngaddggcmjgaaGreatDoorT21
import Derived.Test.YtdngaddggcmjgaaGreatDoorT24
namespace Go.Proofs.YtdngaddggcmjgaaGreatDoor.Words
open Go.ChangeShapes Go.WideShapes Go.ChangeAt Go.RowKit Go.Deep
open Utf hiding infoI32 rd_new own_form own_below rdec_any below_drewN new_any write_any close_any infoU8
open Norm hiding new_any write_any close_any
open Seg
open Ucd hiding grow same Told
set_option maxRecDepth 100000
def I64 (z:Int):Prop:=-9223372036854775808≤z∧z≤9223372036854775807
theorem i64_wf {n:Int} (h:(Lit.int .i64 n).wf=true):I64 n:=by simpa [I64,Lit.wf,IntKind.min,IntKind.max,IntKind.signed,IntKind.bits] using h
theorem total_snoc (L:List Sx) (x:Sx):total (L++[x])=total L+(txt x).length:=by unfold total;rw [List.map_append,List.flatten_append,List.length_append];simp
theorem bulkAll_snoc {H:Type}:∀(l:List (DataW H)) (d:DataW H),Rows.uptoBulkAll (l++[d])=Rows.uptoBulkAll l+Rows.uptoBulk d
 | [],d=>by simp [Rows.uptoBulkAll]
 | x :: l,d=>by rw [List.cons_append,Rows.uptoBulkAll,bulkAll_snoc l d,Rows.uptoBulkAll];omega
theorem addr_add (a:Addr) (i j:Nat):(a.add i).add j=a.add (i+j):=by
 unfold Addr.add
 split
 ·split
  ·simp_all
  ·simp_all
 ·split
  ·simp_all
  ·simp_all;omega
theorem segFields:Tryz.prog.underlying 48=some (.struct (Tryz.prog.fieldsOf 48)):=by kernel_rfl
theorem open_seg {H:Type} {enc:TypeId × Value→H} {W:World} {fuel:Nat} {cs:List Value} {y:DataW H × List MemPlace} (h:DataW.trod enc Tryz.prog W 0 (fun _=>true) true fuel 48 cs=some y) :
  ∃x:Sx,cs=rowS x∧I64 x.a∧I64 x.e∧(txt x).length+1≤Rows.uptoBulk y.1:=by
 obtain ⟨xs,k,rfl,rfl,hlen,hxl,hf⟩:=DataW.trod_struct segFields h
 rw [show Tryz.prog.cellsOf 48=3 by kernel_rfl] at hlen
 rw [show (Tryz.prog.fieldsOf 48).size=3 by kernel_rfl] at hxl
 match cs,hlen,xs,hxl with
 | [v0,v1,v2],_,[y0,y1,y2],_ =>
  have g0:DataW.trod enc Tryz.prog W 0 (fun _=>true) true k 9 [v0]=some y0:=hf 0 _ (show (Tryz.prog.fieldsOf 48)[0]? = some ((Tryz.prog.fieldsOf 48).getD 0 default) by kernel_rfl)
  have g1:DataW.trod enc Tryz.prog W 0 (fun _=>true) true k 3 [v1]=some y1:=hf 1 _ (show (Tryz.prog.fieldsOf 48)[1]? = some ((Tryz.prog.fieldsOf 48).getD 1 default) by kernel_rfl)
  have g2:DataW.trod enc Tryz.prog W 0 (fun _=>true) true k 3 [v2]=some y2:=hf 2 _ (show (Tryz.prog.fieldsOf 48)[2]? = some ((Tryz.prog.fieldsOf 48).getD 2 default) by kernel_rfl)
  obtain ⟨s0,e0,hs0,_⟩:=DataW.trod_string Tryz.underlying9 g0
  obtain ⟨z1,e1,_,w1⟩:=DataW.trod_int Tryz.underlying3 g1
  obtain ⟨z2,e2,_,w2⟩:=DataW.trod_int Tryz.underlying3 g2
  simp only [List.cons.injEq,and_true] at e0 e1 e2
  subst e0 e1 e2
  refine ⟨⟨s0,z1,z2⟩,rfl,i64_wf w1,i64_wf w2,?_⟩
  simp only [List.map_cons,List.map_nil,Rows.uptoBulk,Rows.uptoBulkAll,hs0]
  show s0.data.toList.length+1≤_
  omega
theorem bulk_pos {H:Type} (d:DataW H):1≤Rows.uptoBulk d:=by
 cases d with
 | lit l=>cases l <;> simp [Rows.uptoBulk]
 | _=>simp [Rows.uptoBulk]
theorem bulk_many {H:Type} (l:List (DataW H)):l.length≤Rows.uptoBulkAll l:=by
 induction l with
 | nil=>simp
 | cons x t ih=>have:=bulk_pos x;rw [Rows.uptoBulkAll,List.length_cons];omega
theorem open_segs {H:Type} {enc:TypeId × Value→H} {W:World} {a0:Option Addr} {len cap:Nat} {d:DataW H} {p:List MemPlace}
  (h:DataW.Trod enc Tryz.prog W 0 (fun _=>true) true 30 (.slice a0 len cap) d p) :
  ∃L:List Sx,L.length=len∧len≤cap∧cap≤9223372036854775807∧Rd W W.heap.size a0 (sxs L)∧(∀x∈L,I64 x.a∧I64 x.e)∧total L≤Rows.uptoBulk d∧len≤Rows.uptoBulk d:=by
 obtain ⟨fuel,hf⟩:=h
 rcases open_slice Tryz.underlying30 hf with ⟨hcs,hx⟩ | ⟨a,len',cap',m,n,D,Pl,hcs,_,hl,hm,hmm,hx,hi⟩
 ·simp [Value.cells] at hcs
  obtain ⟨rfl,rfl,rfl⟩:=hcs
  exact ⟨[],rfl,Nat.le_refl _,by omega,fun h=>absurd rfl h,fun x h=>(by cases h),Nat.zero_le _,Nat.zero_le _⟩
 ·simp [Value.cells] at hcs
  obtain ⟨rfl,rfl,rfl⟩:=hcs
  simp only [if_true] at hmm
  simp only [Prod.mk.injEq] at hx
  rw [hx.1]
  simp only [Rows.uptoBulk]
  have hc2:Tryz.prog.cellsOf 48=3:=by kernel_rfl
  have each:∀i,i < len→∃x:Sx,(I64 x.a∧I64 x.e)∧(txt x).length+1≤Rows.uptoBulk (D i)∧∀(j:Nat) (u:Value),(rowS x)[j]? = some u→W.cell? (a.add (i*3+j))=some u:=by
   intro i him
   obtain ⟨cs,h1,h2⟩:=hi i (by omega)
   rw [hc2] at h1
   obtain ⟨_,hlen,hcell⟩:=World.cells?_some h1
   obtain ⟨x,rfl,g2,g3,g4⟩:=open_seg h2
   refine ⟨x,⟨g2,g3⟩,g4,fun j u hu=>?_⟩
   have hj:j < 3:=(List.getElem?_eq_some_iff.1 hu).1
   have:=hcell j hj
   rw [addr_add] at this
   rw [this,hu]
  have ex:∀k,k≤len→∃L:List Sx,L.length=k∧(∀x∈L,I64 x.a∧I64 x.e)∧total L≤Rows.uptoBulkAll ((List.range k).map D)∧∀(j:Nat) (u:Value),(sxs L)[j]? = some u→W.cell? (a.add j)=some u:=by
   intro k
   induction k with
   | zero=>intro _;exact ⟨[],rfl,fun x h=>(by cases h),Nat.zero_le _,fun j u h=>by simp [sxs] at h⟩
   | succ k ih =>
    intro hk
    obtain ⟨L,h2,h5,h6,h4⟩:=ih (by omega)
    obtain ⟨x,hb5,hb6,hc⟩:=each k (by omega)
    refine ⟨L++[x],by rw [List.length_append,h2];rfl,fun y hy=>?_,?_,fun j u hj=>?_⟩
    ·rcases List.mem_append.1 hy with g | g
     ·exact h5 y g
     ·rw [List.mem_singleton.1 g];exact hb5
    ·rw [total_snoc,List.range_succ,List.map_append]
     show _≤Rows.uptoBulkAll ((List.range k).map D++[D k])
     rw [bulkAll_snoc];omega
    ·have e1:sxs (L++[x])=sxs L++rowS x:=by unfold sxs;rw [List.flatMap_append];simp
     rw [e1] at hj
     by_cases hlt:j < (sxs L).length
     ·rw [List.getElem?_append_left hlt] at hj;exact h4 j u hj
     ·rw [List.getElem?_append_right (by omega),sxs_len,h2] at hj
      have:=hc (j - k*3) u hj
      rw [sxs_len,h2] at hlt
      rwa [show k*3+(j - k*3)=j by omega] at this
  obtain ⟨L,h2,h5,h6,h4⟩:=ex len (Nat.le_refl _)
  have hlen:len≤Rows.uptoBulkAll ((List.range len).map D):=by
   have:=bulk_many ((List.range len).map D)
   rwa [List.length_map,List.length_range] at this
  have hbm:Rows.uptoBulkAll ((List.range len).map D)≤Rows.uptoBulkAll ((List.range len).map D):=Nat.le_refl _
  refine ⟨L,h2,hl,by simpa [maxLen] using hm,fun hne=>?_,h5,by omega,by omega⟩
  obtain ⟨u0,hu0⟩:∃u,(sxs L)[0]? = some u:=by
   cases hn:sxs L with
   | nil=>exact absurd hn hne
   | cons x r=>exact ⟨x,rfl⟩
  obtain ⟨b,o,spot⟩:=a
  have hc0:=h4 0 u0 hu0
  have hspot:spot=none:=by simpa [Addr.add] using World.cell?_spot hc0
  subst hspot
  have hc0':W.cell? ⟨b,o,none⟩=some u0:=by simpa [Addr.add] using hc0
  refine ⟨b,o,rfl,World.block_lt_of_cell? W _ hc0',fun j u hj=>?_⟩
  have:=h4 j u hj
  have hadd:(⟨b,o,none⟩:Addr).add j=⟨b,o+j,none⟩:=by unfold Addr.add;split <;> simp_all
  rwa [hadd] at this
end Go.Proofs.YtdngaddggcmjgaaGreatDoor.Words
