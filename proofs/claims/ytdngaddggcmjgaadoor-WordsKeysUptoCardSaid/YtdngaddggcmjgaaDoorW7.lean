/-
  Texts of stage 7, part 7.
-/
import Derived.Test.YtdngaddggcmjgaaDoorRows
import Derived.ProofKit
import Derived.OpenShut
import Derived.JoinedCond
import Derived.ChangeOld
import Derived.Below
import Derived.SizedLaws
import Derived.Test.YtdngaddggcmjgaaDoorW6
namespace Go.Proofs.YtdngaddggcmjgaaDoor.Utf
open Go.ChangeShapes Go.WideShapes Go.ChangeAt Go.RowKit
set_option maxRecDepth 100000
theorem own:ownKnob Tryd.prog.godebug=none:=by kernel_rfl
theorem laidOut:laidOutB Tryd.prog=true:=by kernel_rfl
theorem bulk_one {H:Type} (d:DataW H):1≤Rows.uptoBulk d:=by
 cases d with
 | lit l=>cases l <;> simp [Rows.uptoBulk]
 | nil=>simp [Rows.uptoBulk]
 | ptr d=>simp [Rows.uptoBulk]
 | slice elems spare=>simp [Rows.uptoBulk]
 | agg parts=>simp [Rows.uptoBulk]
 | iface t d=>simp [Rows.uptoBulk]
 | map entries=>simp [Rows.uptoBulk]
 | held h=>simp [Rows.uptoBulk]
theorem bulk_len {H:Type} (l:List (DataW H)):l.length≤Rows.uptoBulkAll l:=by
 induction l with
 | nil=>simp [Rows.uptoBulkAll]
 | cons x r ih=>have:=bulk_one x;simp only [Rows.uptoBulkAll,List.length_cons];omega
theorem u8_bounds {n:Int} (h:(Lit.int .u8 n).wf=true):0≤n∧n≤255:=by simpa [Lit.wf,IntKind.min,IntKind.max,IntKind.signed,IntKind.bits] using h
theorem open_cells {H:Type} {enc:TypeId × Value→H} {W:World} {t e:TypeId} {k:IntKind} {a0:Option Addr} {len cap:Nat} {d:DataW H} {p:List MemPlace} (ht:Tryd.prog.underlying t=some (.slice e)) (he:Tryd.prog.underlying e=some (.int k)) (hc:Tryd.prog.cellsOf e=1)
  (h:DataW.Trod enc Tryd.prog W 0 (fun _=>true) true t (.slice a0 len cap) d p) :
  ∃zs:List Int,zs.length=len∧len≤cap∧cap≤maxLen∧(∀n∈zs,(Lit.int k n).wf=true)∧(zs≠[]→∃b o,a0=some ⟨b,o,none⟩∧b < W.heap.size∧∀(j:Nat) (z:Int),zs[j]? = some z→W.cell? ⟨b,o+j,none⟩=some (.int k z)) ∧
   (d=.nil∧cap=0∨∃elems spare,d=.slice elems spare∧elems.length+spare.length=cap∧elems.length=len):=by
 obtain ⟨fuel,hf⟩:=h
 rcases open_ints ht he hc hf with ⟨hcs,hx⟩ | ⟨x,l,c,zs,hcs,_,hl,hm,hz,hx,hcell,hwz⟩
 ·simp [Value.cells] at hcs
  obtain ⟨rfl,rfl,rfl⟩:=hcs
  simp only [Prod.mk.injEq] at hx
  exact ⟨[],rfl,Nat.le_refl _,by simp [maxLen],by simp,fun h=>absurd rfl h,.inl ⟨hx.1,rfl⟩⟩
 ·simp [Value.cells] at hcs
  obtain ⟨rfl,rfl,rfl⟩:=hcs
  simp only [Prod.mk.injEq] at hx
  simp only [if_true] at hz
  refine ⟨zs.take len,by rw [List.length_take];omega,hl,hm,fun n hn=>hwz n (List.mem_of_mem_take hn),fun hne=>?_,.inr ⟨_,_,hx.1,by simp only [lits,List.length_map,List.length_take,List.length_drop];omega,by simp only [lits,List.length_map,List.length_take];omega⟩⟩
  have h0:0 < zs.length:=by
   rcases Nat.eq_zero_or_pos zs.length with h | h
   ·have:zs=[]:=List.eq_nil_of_length_eq_zero h
    subst this;simp at hne
   ·exact h
  obtain ⟨b,o,spot⟩:=x
  have hc0:=hcell 0 h0
  have hspot:spot=none:=by simpa [Addr.add] using World.cell?_spot hc0
  subst hspot
  have hc0':W.cell? ⟨b,o,none⟩=some (.int k (zs.getD 0 0)):=by simpa [Addr.add] using hc0
  refine ⟨b,o,rfl,World.block_lt_of_cell? W _ hc0',fun j z hj=>?_⟩
  rw [List.getElem?_take] at hj
  split at hj
  ·have hjl:j < zs.length:=by
    rcases Nat.lt_or_ge j zs.length with h | h
    ·exact h
    ·rw [List.getElem?_eq_none h] at hj;cases hj
   have:=hcell j hjl
   have hadd:(⟨b,o,none⟩:Addr).add j=⟨b,o+j,none⟩:=by unfold Addr.add;split <;> simp_all
   rw [hadd] at this
   rw [this]
   simp [List.getD,hj]
  ·cases hj
theorem open_bytes {H:Type} {enc:TypeId × Value→H} {W:World} {a0:Option Addr} {len cap:Nat} {d:DataW H} {p:List MemPlace}
  (h:DataW.Trod enc Tryd.prog W 0 (fun _=>true) true 22 (.slice a0 len cap) d p) :
  ∃l:List UInt8,l.length=len∧len≤cap∧cap≤9223372036854775807∧Rd W W.heap.size a0 (bys l)∧len≤Rows.uptoBulk d:=by
 obtain ⟨zs,h1,h2,h3,h4,h5,h6⟩:=open_cells Tryd.underlying22 Tryd.underlying5 (by kernel_rfl) h
 have hb:bys (zs.map fun n=>UInt8.ofNat n.toNat)=zs.map (Value.int .u8):=by
  simp only [bys,List.map_map]
  refine List.map_congr_left fun n hn=>?_
  have:=u8_bounds (h4 n hn)
  simp only [Function.comp]
  have e:((UInt8.ofNat n.toNat).toNat:Int)=n:=by simp [UInt8.toNat_ofNat'];omega
  rw [e]
 refine ⟨zs.map fun n=>UInt8.ofNat n.toNat,by rw [List.length_map,h1],h2,by simpa [maxLen] using h3,fun hne=>?_,?_⟩
 ·obtain ⟨b,o,e,hbl,hc⟩:=h5 (by rintro rfl;exact hne rfl)
  refine ⟨b,o,e,hbl,fun j u hu=>?_⟩
  rw [hb,List.getElem?_map,Option.map_eq_some_iff] at hu
  obtain ⟨z,hz,rfl⟩:=hu
  exact hc j z hz
 ·rcases h6 with ⟨rfl,h⟩ | ⟨elems,spare,rfl,ha,hl⟩
  ·omega
  ·have:=bulk_len elems;simp only [Rows.uptoBulk];omega
theorem bulk_bound {H:Type} {l:List (DataW H)} (hk:Rows.uptoSmall H l=true):Rows.uptoBulkAll l≤1048576:=of_decide_eq_true hk
def Law (w:World) (e:Ending) (w':World):Prop:=e=.returned (.bool true)∧Below w.heap.size w w'
end Go.Proofs.YtdngaddggcmjgaaDoor.Utf
