/-
  Texts of stage 7, part 26.
-/
import Derived.RangeFuncNested
import Derived.RangeFuncBound
import Derived.RangeFuncCalls
import Derived.RangeFuncLeaves
import Derived.Shelf.Abstract
import Derived.Shelf.RegionOpen
import Derived.WalkKit
import Derived.OwnWalkIn
import Derived.TacticsInMore
import Derived.LoopNIn
import Derived.LoopIn
import Derived.Test.YtkgeiokckfpjlaaGreatDoorM8
namespace Go.Proofs.YtkgeiokckfpjlaaGreatDoor.Ucd
open Go.RowKit Go.Shelf Utf
attribute [local go_sem] Oper.semAt_some
abbrev CRow:={ x:Int × Int × Int // x∈catRows }
def encRow (x:CRow):Array Value:=#[.agg #[.int .i32 x.1.1,.int .i32 x.1.2.1,.int .i32 x.1.2.2]]
def allRows:List CRow:=catRows.attach
theorem all_get (k:Nat) (h:k < allRows.length) (h':k < catRows.length):(allRows[k]'h).1=catRows[k]'h':=by simp [allRows]
theorem low_at {k:Nat} (h:k < lowRows.length):∃x:CRow,x.1=lowRows[k]'h∧allRows.take (k+1)=allRows.take k++[x]:=by
 have hc:k < catRows.length:=Nat.lt_trans h (by decide)
 have hk:k < allRows.length:=by rw [allRows,List.length_attach];exact hc
 refine ⟨allRows[k],?_,List.take_succ_eq_append_getElem hk⟩
 rw [all_get k hk hc]
 exact List.getElem_append_left h
theorem high_at {k:Nat} (h:k < highRows.length):∃x:CRow,x.1=highRows[k]'h∧allRows.take (43+k+1)=allRows.take (43+k)++[x]:=by
 have hc:43+k < catRows.length:=by have:highRows.length=29:=rfl;show 43+k < 72;omega
 have hk:43+k < allRows.length:=by rw [allRows,List.length_attach];exact hc
 refine ⟨allRows[43+k],?_,List.take_succ_eq_append_getElem hk⟩
 rw [all_get _ hk hc]
 have e:(lowRows++highRows)[43+k]'hc=highRows[43+k - lowRows.length]'(by show 43+k - 43 < _;omega):=List.getElem_append_right (by show 43≤43+k;omega)
 refine e.trans ?_
 congr 1
 show 43+k - 43=k
 omega
theorem wpListIn_load_row {F:Fence} {n:Nat} {P:Program} {ops:Array Oper} {rest:List Oper} {o:Oper} {a:Act} {w:World} {Q:Exit→Act→World→Prop} (hgd:o.guard=none) (ty:TypeId) (x:Operand) (ho:o.op=.load ty x)
  (g:Nat) (hx:a.eval x=.pointer (some ⟨g,0,none⟩)) (t:TypeId) (cs:Array Value) (fr:Nat × Nat) (d:TypeDesc) (hg:w.heap[g]? = some (.cells cs t fr))
  (hu:P.underlying ty=some d) (hd:(match d with | .struct _ | .array _ _=>true | _=>false)=true) (hi:(P.info? ty).map (·.size)=some cs.size)
  (h:wpListIn F n P ops Q rest (a.put o.dst (.agg cs)) w):wpListIn F n P ops Q (o :: rest) a w:=by
 refine wpListIn_plain hgd fun K hK'=>?_
 unfold Oper.wpIn
 refine ⟨?_,?_⟩
 ·simp [Oper.about,ho]
 ·rw [Oper.semAt_plain F _ _ (by rw [ho];intro c hc';cases hc')]
  simp only [execOp,ho,hx,Instr.loadAt,Instr.sureAddr,Sem.run_bind,Sem.run_pure,Result.andThen_ok,run_loadVar_row w g t ty cs fr d hg hu hd hi]
  exact hK' _ _ h
set_option maxRecDepth 100000 in
set_option maxHeartbeats 4000000 in
theorem stretches_stops (F:Fence) (n:Nat) (hF:F.fn 287) (hro:F.round=none) (hn:1≤n) (w:World) (hL:Laid w) :
  SeqStopsK F n Tryz.prog 287 #[] encRow (Below (8+1)) (fun xs=>xs=allRows) (fun pre=>pre <+: allRows) 72 w:=fun l J Jx W hW hJ _ hY h0=>by
 have hLW:Laid W:=hL.next hW
 refine callsIn_of_wp Tryz.func287 rfl hF ?_ hro
 simp only [Tryz.ntmps287,List.size_toArray,List.length_cons,List.length_nil,Nat.reduceAdd,Nat.reduceSub,Array.replicate_succ,Array.replicate_zero,List.push_toArray,List.append_toArray,List.nil_append,List.cons_append]
 have HL:=Lib.hid hLW
 obtain ⟨ty,fr,hB⟩:=hLW.2.1
 have HB:=Lib.hid hB
 clear hLW hL hW hB
 gi_wp2_with (refine wpListIn_load_row rfl _ _ rfl 7 rfl _ _ _ _ HB.out Tryz.underlying301 rfl (by kernel_rfl) ?_)
 obtain ⟨arr,harr⟩:∃arr,arr=(c3 lowRows).toArray:=⟨_,rfl⟩
 rw [←harr]
 have HI:=Lib.hid (show ∀k:Nat,k < 43→∀u:World,(Instr.index 301 (.agg arr) (.int .i64 k)).run Tryz.prog u=.ok (.agg (arr.extract (k*3) (k*3+3))) u from fun k hk u=>run_index_row arr k Tryz.underlying301 Tryz.isAgg251 Tryz.sizeOf251 hk u)
 have HA:=Lib.hid harr
 clear harr
 gi_wp2
 gi_loopw [7] (fun i wr=>∃k:Nat,k≤43∧i=.int .i64 k∧Hid (J (allRows.take k) wr∧Laid wr)) (fun i _=>43 - (intOf i).toNat)
 case atStart=>exact ⟨0,Nat.zero_le _,rfl,Lib.hid ⟨h0,HL.out⟩⟩
 case round =>
  obtain ⟨k,hk,rfl,H⟩:=hrel
  by_cases hlt:k < 43
  ·obtain ⟨⟨⟨lo,hi,v⟩,hm⟩,hx1,hx2⟩:=low_at (k:=k) hlt
   have hx:∀u:World,(Instr.index 301 (.agg arr) (.int .i64 k)).run Tryz.prog u=.ok (.agg #[.int .i32 lo,.int .i32 hi,.int .i32 v]) u:=fun u=>by
    rw [HI.out k hlt u,HA.out,c3_row lowRows k hlt,←hx1]
   have hJ1:=hJ _ wr (wr.alloc (.cells #[.int .i32 lo,.int .i32 hi,.int .i32 v] 251)) none H.out.1 (World.grownBy_alloc wr _ none) (fun r e=>by cases e)
   obtain ⟨fn,tmps,assign,body,hy,hR⟩:=hY _ ⟨(lo,hi,v),hm⟩ _ hJ1 (by rw [List.length_take];omega)
   dsimp only [encRow] at hy
   have HX:=Lib.hid hx2
   have HH:=Lib.hid (H.out.2.alloc (.cells #[.int .i32 lo,.int .i32 hi,.int .i32 v] 251))
   clear hx1 hx2 hJ1 H
   gi_wp2
   refine hR.mono ?_
   rintro e W3 (⟨rfl,hJ3,hk3⟩ | ⟨rfl,hJx3⟩)
   ·have HJ:=Lib.hid hJ3;have HK:=Lib.hid hk3
    clear hJ3 hk3
    gi_wp2
    go_roundw
    case rel=>exact ⟨k+1,by omega,by go_num,Lib.hid ⟨by rw [HX.out];exact HJ.out,HH.out.below HK.out (by decide)⟩⟩
    case measure=>simp [intOf];omega
   ·have HJ:=Lib.hid hJx3
    clear hJx3
    gi_wp2
    refine bodyPost_ret (results_none rfl _ _ _) rfl ?_
    exact ⟨⟨_,rfl⟩,.inr ⟨allRows.take (k+1),List.take_prefix _ _,by rw [HX.out];exact HJ.out⟩⟩
  ·obtain rfl:k=43:=by omega
   have HS:=H
   obtain ⟨ty2,fr2,hB2⟩:=H.out.2.2.2.1
   have HB2:=Lib.hid hB2
   clear hB2 H HI HA HL HB
   gi_wp2_with (refine wpListIn_load_row rfl _ _ rfl 8 rfl _ _ _ _ HB2.out Tryz.underlying302 rfl (by kernel_rfl) ?_)
   obtain ⟨brr,hbrr⟩:∃brr,brr=(c3 highRows).toArray:=⟨_,rfl⟩
   rw [←hbrr]
   have HI2:=Lib.hid (show ∀k:Nat,k < 29→∀u:World,(Instr.index 302 (.agg brr) (.int .i64 k)).run Tryz.prog u=.ok (.agg (brr.extract (k*3) (k*3+3))) u from fun k hk u=>run_index_row brr k Tryz.underlying302 Tryz.isAgg251 Tryz.sizeOf251 hk u)
   have HA2:=Lib.hid hbrr
   clear hbrr
   gi_wp2
   gi_loopw [16] (fun i wr=>∃k:Nat,k≤29∧i=.int .i64 k∧Hid (J (allRows.take (43+k)) wr∧Laid wr)) (fun i _=>29 - (intOf i).toNat)
   case atStart=>exact ⟨0,Nat.zero_le _,rfl,HS⟩
   case round =>
    obtain ⟨k,hk,rfl,H⟩:=hrel
    by_cases hlt:k < 29
    ·obtain ⟨⟨⟨lo,hi,v⟩,hm⟩,hx1,hx2⟩:=high_at (k:=k) hlt
     have hx:∀u:World,(Instr.index 302 (.agg brr) (.int .i64 k)).run Tryz.prog u=.ok (.agg #[.int .i32 lo,.int .i32 hi,.int .i32 v]) u:=fun u=>by
      rw [HI2.out k hlt u,HA2.out,c3_row highRows k hlt,←hx1]
     have hJ1:=hJ _ wr (wr.alloc (.cells #[.int .i32 lo,.int .i32 hi,.int .i32 v] 251)) none H.out.1 (World.grownBy_alloc wr _ none) (fun r e=>by cases e)
     obtain ⟨fn,tmps,assign,body,hy,hR⟩:=hY _ ⟨(lo,hi,v),hm⟩ _ hJ1 (by rw [List.length_take];omega)
     dsimp only [encRow] at hy
     have HX:=Lib.hid hx2
     have HH:=Lib.hid (H.out.2.alloc (.cells #[.int .i32 lo,.int .i32 hi,.int .i32 v] 251))
     clear hx1 hx2 hJ1 H
     gi_wp2
     refine hR.mono ?_
     rintro e W3 (⟨rfl,hJ3,hk3⟩ | ⟨rfl,hJx3⟩)
     ·have HJ:=Lib.hid hJ3;have HK:=Lib.hid hk3
      clear hJ3 hk3
      gi_wp2
      go_roundw
      case rel=>exact ⟨k+1,by omega,by go_num,Lib.hid ⟨by rw [show 43+(k+1)=43+k+1 from rfl,HX.out];exact HJ.out,HH.out.below HK.out (by decide)⟩⟩
      case measure=>simp [intOf];omega
     ·have HJ:=Lib.hid hJx3
      clear hJx3
      gi_wp2
      refine bodyPost_ret (results_none rfl _ _ _) rfl ?_
      exact ⟨⟨_,rfl⟩,.inr ⟨allRows.take (43+k+1),List.take_prefix _ _,by rw [HX.out];exact HJ.out⟩⟩
    ·obtain rfl:k=29:=by omega
     gi_wp2
     go_end0
     exact ⟨⟨_,rfl⟩,.inl ⟨_,List.take_of_length_le (by rw [allRows,List.length_attach];decide),H.out.1⟩⟩
end Go.Proofs.YtkgeiokckfpjlaaGreatDoor.Ucd
namespace Go.Proofs.YtkgeiokckfpjlaaGreatDoor.Ucd
open Go.RowKit Go.Shelf Utf
attribute [local go_sem] Oper.semAt_some
theorem all_map:allRows.map (·.1)=catRows:=List.attach_map_subtype_val _
theorem blk_own {β:Type} (B:Nat) (t:TypeId) (cs:List Value) (D:Nat):OwnFrom D (fun (_:β) W=>Blk W B t cs):=fun _ X Y row hs hg hr=>hs.grown hg (fun e=>by
 obtain ⟨_,o,ho,hc⟩:=hr B e.symm
 rw [show X.heap[B]? = _ from hs] at ho
 cases ho;cases hc)
end Go.Proofs.YtkgeiokckfpjlaaGreatDoor.Ucd
