/-
  Texts of stage 7, part 15.
-/
import Derived.RangeFuncNested
import Derived.RangeFuncBound
import Derived.RangeFuncCalls
import Derived.RangeFuncLeaves
import Derived.Shelf.Abstract
import Derived.Shelf.RegionOpen
import Derived.WalkKit
import Derived.OwnWalkIn
import Derived.TacticsInMore
import Derived.LoopNIn
import Derived.LoopIn
import Derived.Test.YtdngaddggcmjgaaDoorW11
namespace Go.Proofs.YtdngaddggcmjgaaDoor.Ucd
open Go.RowKit Go.Shelf Utf
attribute [local go_sem] Oper.semAt_some
abbrev CRow:={ x:Int × Int × Int // x∈catRows }
def encRow (x:CRow):Array Value:=#[.agg #[.int .i32 x.1.1,.int .i32 x.1.2.1,.int .i32 x.1.2.2]]
def allRows:List CRow:=catRows.attach
theorem all_get (k:Nat) (h:k < allRows.length) (h':k < catRows.length):(allRows[k]'h).1=catRows[k]'h':=by simp [allRows]
theorem low_at {k:Nat} (h:k < lowRows.length):∃x:CRow,x.1=lowRows[k]'h∧allRows.take (k+1)=allRows.take k++[x]:=by
 have hc:k < catRows.length:=Nat.lt_trans h (by decide)
 have hk:k < allRows.length:=by rw [allRows,List.length_attach];exact hc
 refine ⟨allRows[k],?_,List.take_succ_eq_append_getElem hk⟩
 rw [all_get k hk hc]
 exact List.getElem_append_left h
theorem high_at {k:Nat} (h:k < highRows.length):∃x:CRow,x.1=highRows[k]'h∧allRows.take (43+k+1)=allRows.take (43+k)++[x]:=by
 have hc:43+k < catRows.length:=by have:highRows.length=29:=rfl;show 43+k < 72;omega
 have hk:43+k < allRows.length:=by rw [allRows,List.length_attach];exact hc
 refine ⟨allRows[43+k],?_,List.take_succ_eq_append_getElem hk⟩
 rw [all_get _ hk hc]
 have e:(lowRows++highRows)[43+k]'hc=highRows[43+k - lowRows.length]'(by show 43+k - 43 < _;omega):=List.getElem_append_right (by show 43≤43+k;omega)
 refine e.trans ?_
 congr 1
 show 43+k - 43=k
 omega
theorem wpListIn_load_row {F:Fence} {n:Nat} {P:Program} {ops:Array Oper} {rest:List Oper} {o:Oper} {a:Act} {w:World} {Q:Exit→Act→World→Prop} (hgd:o.guard=none) (ty:TypeId) (x:Operand) (ho:o.op=.load ty x)
  (g:Nat) (hx:a.eval x=.pointer (some ⟨g,0,none⟩)) (t:TypeId) (cs:Array Value) (fr:Nat × Nat) (d:TypeDesc) (hg:w.heap[g]? = some (.cells cs t fr))
  (hu:P.underlying ty=some d) (hd:(match d with | .struct _ | .array _ _=>true | _=>false)=true) (hi:(P.info? ty).map (·.size)=some cs.size)
  (h:wpListIn F n P ops Q rest (a.put o.dst (.agg cs)) w):wpListIn F n P ops Q (o :: rest) a w:=by
 refine wpListIn_plain hgd fun K hK'=>?_
 unfold Oper.wpIn
 refine ⟨?_,?_⟩
 ·simp [Oper.about,ho]
 ·rw [Oper.semAt_plain F _ _ (by rw [ho];intro c hc';cases hc')]
  simp only [execOp,ho,hx,Instr.loadAt,Instr.sureAddr,Sem.run_bind,Sem.run_pure,Result.andThen_ok,run_loadVar_row w g t ty cs fr d hg hu hd hi]
  exact hK' _ _ h
set_option maxRecDepth 100000 in
set_option maxHeartbeats 4000000 in
theorem stretches_stops (F:Fence) (n:Nat) (hF:F.fn 88) (hro:F.round=none) (hn:1≤n) (w:World) (hL:Laid w) :
  SeqStopsK F n Tryd.prog 88 #[] encRow (Below (5+1)) (fun xs=>xs=allRows) (fun pre=>pre <+: allRows) 72 w:=fun l J Jx W hW hJ _ hY h0=>by
 have hLW:Laid W:=hL.next hW
 refine callsIn_of_wp Tryd.func88 rfl hF ?_ hro
 simp only [Tryd.ntmps88,List.size_toArray,List.length_cons,List.length_nil,Nat.reduceAdd,Nat.reduceSub,Array.replicate_succ,Array.replicate_zero,List.push_toArray,List.append_toArray,List.nil_append,List.cons_append]
 have HL:=Lib.hid hLW
 obtain ⟨ty,fr,hB⟩:=hLW.2.1
 have HB:=Lib.hid hB
 clear hLW hL hW hB
 gi_wp2_with (refine wpListIn_load_row rfl _ _ rfl 3 rfl _ _ _ _ HB.out Tryd.underlying138 rfl (by kernel_rfl) ?_)
 obtain ⟨arr,harr⟩:∃arr,arr=(c3 lowRows).toArray:=⟨_,rfl⟩
 rw [←harr]
 have HI:=Lib.hid (show ∀k:Nat,k < 43→∀u:World,(Instr.index 138 (.agg arr) (.int .i64 k)).run Tryd.prog u=.ok (.agg (arr.extract (k*3) (k*3+3))) u from fun k hk u=>run_index_row arr k Tryd.underlying138 Tryd.isAgg120 Tryd.sizeOf120 hk u)
 have HA:=Lib.hid harr
 clear harr
 gi_wp2
 gi_loopw [7] (fun i wr=>∃k:Nat,k≤43∧i=.int .i64 k∧Hid (J (allRows.take k) wr∧Laid wr)) (fun i _=>43 - (intOf i).toNat)
 case atStart=>exact ⟨0,Nat.zero_le _,rfl,Lib.hid ⟨h0,HL.out⟩⟩
 case round =>
  obtain ⟨k,hk,rfl,H⟩:=hrel
  by_cases hlt:k < 43
  ·obtain ⟨⟨⟨lo,hi,v⟩,hm⟩,hx1,hx2⟩:=low_at (k:=k) hlt
   have hx:∀u:World,(Instr.index 138 (.agg arr) (.int .i64 k)).run Tryd.prog u=.ok (.agg #[.int .i32 lo,.int .i32 hi,.int .i32 v]) u:=fun u=>by
    rw [HI.out k hlt u,HA.out,c3_row lowRows k hlt,←hx1]
   have hJ1:=hJ _ wr (wr.alloc (.cells #[.int .i32 lo,.int .i32 hi,.int .i32 v] 120)) none H.out.1 (World.grownBy_alloc wr _ none) (fun r e=>by cases e)
   obtain ⟨fn,tmps,assign,body,hy,hR⟩:=hY _ ⟨(lo,hi,v),hm⟩ _ hJ1 (by rw [List.length_take];omega)
   dsimp only [encRow] at hy
   have HX:=Lib.hid hx2
   have HH:=Lib.hid (H.out.2.alloc (.cells #[.int .i32 lo,.int .i32 hi,.int .i32 v] 120))
   clear hx1 hx2 hJ1 H
   gi_wp2
   refine hR.mono ?_
   rintro e W3 (⟨rfl,hJ3,hk3⟩ | ⟨rfl,hJx3⟩)
   ·have HJ:=Lib.hid hJ3;have HK:=Lib.hid hk3
    clear hJ3 hk3
    gi_wp2
    go_roundw
    case rel=>exact ⟨k+1,by omega,by go_num,Lib.hid ⟨by rw [HX.out];exact HJ.out,HH.out.below HK.out (by decide)⟩⟩
    case measure=>simp [intOf];omega
   ·have HJ:=Lib.hid hJx3
    clear hJx3
    gi_wp2
    refine bodyPost_ret (results_none rfl _ _ _) rfl ?_
    exact ⟨⟨_,rfl⟩,.inr ⟨allRows.take (k+1),List.take_prefix _ _,by rw [HX.out];exact HJ.out⟩⟩
  ·obtain rfl:k=43:=by omega
   have HS:=H
   obtain ⟨ty2,fr2,hB2⟩:=H.out.2.2.2.1
   have HB2:=Lib.hid hB2
   clear hB2 H HI HA HL HB
   gi_wp2_with (refine wpListIn_load_row rfl _ _ rfl 4 rfl _ _ _ _ HB2.out Tryd.underlying139 rfl (by kernel_rfl) ?_)
   obtain ⟨brr,hbrr⟩:∃brr,brr=(c3 highRows).toArray:=⟨_,rfl⟩
   rw [←hbrr]
   have HI2:=Lib.hid (show ∀k:Nat,k < 29→∀u:World,(Instr.index 139 (.agg brr) (.int .i64 k)).run Tryd.prog u=.ok (.agg (brr.extract (k*3) (k*3+3))) u from fun k hk u=>run_index_row brr k Tryd.underlying139 Tryd.isAgg120 Tryd.sizeOf120 hk u)
   have HA2:=Lib.hid hbrr
   clear hbrr
   gi_wp2
   gi_loopw [16] (fun i wr=>∃k:Nat,k≤29∧i=.int .i64 k∧Hid (J (allRows.take (43+k)) wr∧Laid wr)) (fun i _=>29 - (intOf i).toNat)
   case atStart=>exact ⟨0,Nat.zero_le _,rfl,HS⟩
   case round =>
    obtain ⟨k,hk,rfl,H⟩:=hrel
    by_cases hlt:k < 29
    ·obtain ⟨⟨⟨lo,hi,v⟩,hm⟩,hx1,hx2⟩:=high_at (k:=k) hlt
     have hx:∀u:World,(Instr.index 139 (.agg brr) (.int .i64 k)).run Tryd.prog u=.ok (.agg #[.int .i32 lo,.int .i32 hi,.int .i32 v]) u:=fun u=>by
      rw [HI2.out k hlt u,HA2.out,c3_row highRows k hlt,←hx1]
     have hJ1:=hJ _ wr (wr.alloc (.cells #[.int .i32 lo,.int .i32 hi,.int .i32 v] 120)) none H.out.1 (World.grownBy_alloc wr _ none) (fun r e=>by cases e)
     obtain ⟨fn,tmps,assign,body,hy,hR⟩:=hY _ ⟨(lo,hi,v),hm⟩ _ hJ1 (by rw [List.length_take];omega)
     dsimp only [encRow] at hy
     have HX:=Lib.hid hx2
     have HH:=Lib.hid (H.out.2.alloc (.cells #[.int .i32 lo,.int .i32 hi,.int .i32 v] 120))
     clear hx1 hx2 hJ1 H
     gi_wp2
     refine hR.mono ?_
     rintro e W3 (⟨rfl,hJ3,hk3⟩ | ⟨rfl,hJx3⟩)
     ·have HJ:=Lib.hid hJ3;have HK:=Lib.hid hk3
      clear hJ3 hk3
      gi_wp2
      go_roundw
      case rel=>exact ⟨k+1,by omega,by go_num,Lib.hid ⟨by rw [show 43+(k+1)=43+k+1 from rfl,HX.out];exact HJ.out,HH.out.below HK.out (by decide)⟩⟩
      case measure=>simp [intOf];omega
     ·have HJ:=Lib.hid hJx3
      clear hJx3
      gi_wp2
      refine bodyPost_ret (results_none rfl _ _ _) rfl ?_
      exact ⟨⟨_,rfl⟩,.inr ⟨allRows.take (43+k+1),List.take_prefix _ _,by rw [HX.out];exact HJ.out⟩⟩
    ·obtain rfl:k=29:=by omega
     gi_wp2
     go_end0
     exact ⟨⟨_,rfl⟩,.inl ⟨_,List.take_of_length_le (by rw [allRows,List.length_attach];decide),H.out.1⟩⟩
end Go.Proofs.YtdngaddggcmjgaaDoor.Ucd
namespace Go.Proofs.YtdngaddggcmjgaaDoor.Ucd
open Go.RowKit Go.Shelf Utf
attribute [local go_sem] Oper.semAt_some
theorem all_map:allRows.map (·.1)=catRows:=List.attach_map_subtype_val _
def Und (r:Int) (pre:List CRow):Prop:=∀rest,look 7 (pre.map (·.1)++rest) r=look 7 rest r
def Dcd (r v:Int) (pre:List CRow):Prop:=∀rest,look 7 (pre.map (·.1)++rest) r=v
theorem und_nil (r:Int):Und r []:=fun _=>rfl
theorem und_next {r:Int} {pre:List CRow} (h:Und r pre) (x:CRow) (h1:¬r < x.1.1) (h2:¬r≤x.1.2.1):Und r (pre++[x]):=fun rest=>by
 rw [List.map_append,List.append_assoc,h]
 simp only [List.map_cons,List.map_nil,List.cons_append,List.nil_append,look,if_neg h1,if_neg h2]
theorem dcd_lt {r:Int} {pre:List CRow} (h:Und r pre) (x:CRow) (h1:r < x.1.1):Dcd r 7 (pre++[x]):=fun rest=>by
 rw [List.map_append,List.append_assoc,h]
 simp only [List.map_cons,List.map_nil,List.cons_append,List.nil_append,look,if_pos h1]
theorem dcd_in {r:Int} {pre:List CRow} (h:Und r pre) (x:CRow) (h1:¬r < x.1.1) (h2:r≤x.1.2.1):Dcd r x.1.2.2 (pre++[x]):=fun rest=>by
 rw [List.map_append,List.append_assoc,h]
 simp only [List.map_cons,List.map_nil,List.cons_append,List.nil_append,look,if_neg h1,if_pos h2]
theorem dcd_cat {r v:Int} {pre:List CRow} (h:Dcd r v pre) (hp:pre <+: allRows):cat r=v:=by
 obtain ⟨t,ht⟩:=hp
 have:=h (t.map (·.1))
 rwa [←List.map_append,ht,all_map] at this
theorem und_cat {r:Int} (h:Und r allRows):cat r=7:=by
 have:=h []
 rwa [List.append_nil,all_map] at this
def I0 (w:World) (r:Int) (pre:List CRow) (W:World):Prop :=
 Und r pre∧Blk W w.heap.size 21 [.int .i32 r]∧Blk W (w.heap.size+1) 3 [.int .i64 0]∧Below w.heap.size w W
def Ix0 (w:World) (r:Int) (c:Code) (pre:List CRow) (W:World):Prop :=
 (c=.exit 0∧Dcd r 7 pre∧Blk W (w.heap.size+1) 3 [.int .i64 0]∧Below w.heap.size w W)∨(c=.ret∧∃v,Dcd r v pre∧Blk W (w.heap.size+1) 3 [.int .i64 v]∧Below w.heap.size w W)
def Ax0 (w:World) (r:Int) (x:CRow) (a':Act) (W:World):Prop :=
 ∃B,w.heap.size+1 < B∧Blk W B 120 [.int .i32 x.1.1,.int .i32 x.1.2.1,.int .i32 x.1.2.2] ∧
  a'={ tmps:=#[.int .i32 r,.pointer (some ⟨w.heap.size,0,none⟩),.pointer (some ⟨w.heap.size+1,0,none⟩),.pointer (some ⟨B,0,none⟩),.agg #[.int .i32 x.1.1,.int .i32 x.1.2.1,.int .i32 x.1.2.2],undef,undef,undef,undef,undef,undef,undef,undef,undef,undef,undef],defers:=[] }
theorem blk_own {β:Type} (B:Nat) (t:TypeId) (cs:List Value) (D:Nat):OwnFrom D (fun (_:β) W=>Blk W B t cs):=fun _ X Y row hs hg hr=>hs.grown hg (fun e=>by
 obtain ⟨_,o,ho,hc⟩:=hr B e.symm
 rw [show X.heap[B]? = _ from hs] at ho
 cases ho;cases hc)
theorem leave {w W:World} {r v:Int} {D:Nat} {tmps:Array Value} (ht:tmps.getD 2 undef=.pointer (some ⟨w.heap.size+1,0,none⟩)) (he:cat r=v) (hb:Blk W (w.heap.size+1) 3 [.int .i64 v]) (hB:Below w.heap.size w W) (hD:w.heap.size≤D) (hK:W.heap[D]? = some (.deferred (some []))) :
  bodyPostM Fence.wide 4 Tryd.prog Tryd.f80 (Ret w (.int .i64 (cat r))) .ret { tmps:=tmps,defers:=[{ target:=.collected D,args:=#[] }] } W:=by
 refine ⟨by simp,.inl ⟨_,_,rfl,run_takeDeferred hK,?_⟩⟩
 have h5:Blk (W.putObj D (.deferred none)) (w.heap.size+1) 3 [.int .i64 v]:=hb.grown (grownBy_putObj' _ D (.deferred none)) (fun e=>by
  cases e
  rw [show W.heap[w.heap.size+1]? = _ from hb] at hK
  cases hK)
 have hc5:(W.putObj D (.deferred none)).cell? ⟨w.heap.size+1,0,none⟩=some (.int .i64 v):=h5.cell 0
 refine ⟨.int .i64 v,?_,by rw [he],hB.trans (belowK_b (w:=w) (Nat.le_refl _) W D _ _ hD hK rfl rfl)⟩
 have ht':tmps[2]?.getD undef=.pointer (some ⟨w.heap.size+1,0,none⟩):=by simpa using ht
 simp [results,Tryd.f80,go_sem,hc5,ht']
set_option maxRecDepth 100000 in
set_option maxHeartbeats 4000000 in
theorem category_in (r:Int) (w:World) (hL:Laid w) :
  CallsIn Fence.wide 4 Tryd.prog 80 #[.int .i32 r] w (Ret w (.int .i64 (cat r))):=by
 have h1:1≤4:=by omega
 refine callsIn_of_wp_marks Tryd.func80 rfl trivial ?_ rfl
 simp only [Tryd.ntmps80,List.size_toArray,List.length_cons,List.length_nil,Nat.reduceAdd,Nat.reduceSub,Array.replicate_succ,Array.replicate_zero,List.push_toArray,List.append_toArray,List.nil_append,List.cons_append]
 gi_wp2
 have b0:Blk ((w.alloc (.cells #[.int .i32 r] 21)).alloc (.cells #[.int .i64 0] 3)) w.heap.size 21 [.int .i32 r]:=(Blk.new w _ [.int .i32 r]).alloc _
 have b1:Blk ((w.alloc (.cells #[.int .i32 r] 21)).alloc (.cells #[.int .i64 0] 3)) (w.heap.size+1) 3 [.int .i64 0]:=by
  have:=Blk.new (w.alloc (.cells #[.int .i32 r] 21)) 3 [.int .i64 0]
  rwa [World.size_alloc] at this
 have hB0:Below w.heap.size w ((w.alloc (.cells #[.int .i32 r] 21)).alloc (.cells #[.int .i64 0] 3)):=((Below.refl _ w).alloc (Nat.le_refl _) _).alloc (by simp) _
 have hsz:=hL.size
 refine wpIn_rangeFunc_ownH rfl h1 (gf:=88) (lb:=#[]) rfl trivial (enters_of Tryd.func88 (by kernel_rfl) rfl)
  (stretches_stops Fence.wide (4 - 1) trivial rfl (by omega) _ ((hL.alloc _).alloc _)) belowK_t (belowK_b (by simp;omega)) (Below.refl _ _) (fun _=>rfl)
  (I0 w r) (Ix0 w r)
  ?i
  ?ix
  ⟨und_nil r,b0,b1,hB0⟩
  (Ax0 w r) ?ax ?assign ?body ?done ?stop
 case i =>
  exact OwnFrom.and (ownFrom_pure _ _) (OwnFrom.and (blk_own _ _ _ _) (OwnFrom.and (blk_own _ _ _ _) (ownFrom_below (Nat.le_refl _) (by simp;omega))))
 case ix =>
  rintro c pre A B row (⟨hc,hd,hb,hB⟩ | ⟨hc,v,hd,hb,hB⟩) hg hr
  ·exact .inl ⟨hc,hd,blk_own _ _ _ _ () A B row hb hg hr,(ownFrom_below (β:=Unit) (Nat.le_refl _) (by simp;omega)) () A B row hB hg hr⟩
  ·exact .inr ⟨hc,v,hd,blk_own _ _ _ _ () A B row hb hg hr,(ownFrom_below (β:=Unit) (Nat.le_refl _) (by simp;omega)) () A B row hB hg hr⟩
 case ax =>
  rintro x a' u A B row ⟨Bx,h1,h2,h3⟩ hg hr
  exact ⟨Bx,h1,blk_own _ _ _ _ () A B row h2 hg hr,h3⟩
 case assign =>
  rintro l pre ⟨⟨lo,hi,v⟩,hm⟩ W K ⟨hu,i0,i1,hB⟩ hK
  dsimp only [encRow]
  gi_wp2
  have hs:=i1.lt
  exact hK _ _ ((KeepsOthers.alloc _ _).from _) ((Below.refl _ W).alloc (by omega) _) ⟨hu,i0.alloc _,i1.alloc _,hB.alloc hB.size _⟩ ⟨W.heap.size,hs,Blk.new W _ _,rfl⟩
 case body =>
  rintro l pre ⟨⟨lo,hi,v⟩,hm⟩ a' W hl ⟨rr,hr⟩ ⟨hu,i0,i1,hB⟩ ⟨B,hBB,bX,rfl⟩ _
  have x0:W.cell? ⟨B,0,none⟩=some (.int .i32 lo):=bX.cell 0
  have x1:W.cell? ⟨B,1,none⟩=some (.int .i32 hi):=bX.cell 1
  have x2:W.cell? ⟨B,2,none⟩=some (.int .i32 v):=bX.cell 2
  have hc0:W.cell? ⟨w.heap.size,0,none⟩=some (.int .i32 r):=i0.cell 0
  have hc1:W.cell? ⟨w.heap.size+1,0,none⟩=some (.int .i64 0):=i1.cell 0
  have hf1:W.frozen? ⟨w.heap.size+1,0,none⟩=false:=i1.frozen 0
  have HU:=Lib.hid hu;have H0:=Lib.hid i0;have H1:=Lib.hid i1;have HBW:=Lib.hid hB
  clear hu i0 i1 hB bX hr
  have hvv:1≤v∧v≤6:=by
   have:∀x∈catRows,1≤x.2.2∧x.2.2≤6:=by decide +kernel
   exact this _ hm
  obtain ⟨v1,v2⟩:=hvv
  gi_wp2
  ·have ht:r < lo:=by assumption
   exact ⟨KeepsFrom.refl _ _,.inl ⟨rfl,dcd_lt HU.out ⟨(lo,hi,v),hm⟩ ht,H1.out,HBW.out⟩⟩
  ·have ht:lo≤r:=by assumption
   have hu:r≤hi:=by assumption
   exact ⟨(KeepsOthers.setCell _ _ _).from _,.inr ⟨rfl,v,dcd_in HU.out ⟨(lo,hi,v),hm⟩ (by show ¬r < lo;omega) hu,H1.out.set_ 0 _,HBW.out.setCell (p:=⟨w.heap.size+1,0,none⟩) (by simp) _⟩⟩
  ·have ht:lo≤r:=by assumption
   have hu:hi < r:=by assumption
   exact ⟨KeepsFrom.refl _ _,Below.refl _ _,und_next HU.out ⟨(lo,hi,v),hm⟩ (by show ¬r < lo;omega) (by show ¬r≤hi;omega),H0.out,H1.out,HBW.out⟩
 case done =>
  rintro D xs W hD rfl ⟨hu,i0,i1,hB⟩ hK
  have hc1:W.cell? ⟨w.heap.size+1,0,none⟩=some (.int .i64 0):=i1.cell 0
  have hf1:W.frozen? ⟨w.heap.size+1,0,none⟩=false:=i1.frozen 0
  have HK:=Lib.hid hK;have H1:=Lib.hid i1;have HBW:=Lib.hid hB;have HU:=Lib.hid hu
  clear hK i0 i1 hB hu
  gi_wp2
  have hK':=(KeepsOthers.setCell W ⟨w.heap.size+1,0,none⟩ (.int .i64 7)).same D _ HK.out rfl
  exact leave rfl (und_cat HU.out) (H1.out.set_ 0 _) (HBW.out.setCell (p:=⟨w.heap.size+1,0,none⟩) (by simp) _) (by simp at hD;omega) hK'
 case stop =>
  rintro D c pre W hD hpre (⟨rfl,hd,i1,hB⟩ | ⟨rfl,v,hd,i1,hB⟩) hK
  ·have hc1:W.cell? ⟨w.heap.size+1,0,none⟩=some (.int .i64 0):=i1.cell 0
   have hf1:W.frozen? ⟨w.heap.size+1,0,none⟩=false:=i1.frozen 0
   have HK:=Lib.hid hK;have H1:=Lib.hid i1;have HBW:=Lib.hid hB;have HD:=Lib.hid hd
   clear hK i1 hB hd
   gi_wp2
   have hK':=(KeepsOthers.setCell W ⟨w.heap.size+1,0,none⟩ (.int .i64 7)).same D _ HK.out rfl
   exact leave rfl (dcd_cat HD.out hpre) (H1.out.set_ 0 _) (HBW.out.setCell (p:=⟨w.heap.size+1,0,none⟩) (by simp) _) (by simp at hD;omega) hK'
  ·gi_wp2
   exact leave rfl (dcd_cat hd hpre) i1 hB (by simp at hD;omega) hK
theorem category_any (r:Int) (w:World) (hL:Laid w):Calls Tryd.prog 80 #[.int .i32 r] w (Ret w (.int .i64 (cat r))):=callsIn_wide.1 (category_in r w hL)
end Go.Proofs.YtdngaddggcmjgaaDoor.Ucd
