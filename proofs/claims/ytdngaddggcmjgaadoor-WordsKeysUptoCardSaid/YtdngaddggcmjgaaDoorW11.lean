/-
  Texts of stage 7, part 11.
-/
import Derived.Test.YtdngaddggcmjgaaDoorProg
import Derived.Laws.Rows
import Derived.LoopTactic
import Derived.Test.YtdngaddggcmjgaaDoorW2
import Derived.Test.YtdngaddggcmjgaaDoorW10
namespace Go.Proofs.YtdngaddggcmjgaaDoor.Ucd
open Go.RowKit Utf
def c3 (l:List (Int × Int × Int)):List Value:=l.flatMap fun x=>[.int .i32 x.1,.int .i32 x.2.1,.int .i32 x.2.2]
def c4 (l:List (Int × Int × Int × Int)):List Value:=l.flatMap fun x=>[.int .i32 x.1,.int .i32 x.2.1,.int .i32 x.2.2.1,.int .i32 x.2.2.2]
theorem c3_cons (q:Int × Int × Int) (t:List (Int × Int × Int)):c3 (q :: t)=.int .i32 q.1 :: .int .i32 q.2.1 :: .int .i32 q.2.2 :: c3 t:=rfl
theorem c4_cons (q:Int × Int × Int × Int) (t:List (Int × Int × Int × Int)):c4 (q :: t)=.int .i32 q.1 :: .int .i32 q.2.1 :: .int .i32 q.2.2.1 :: .int .i32 q.2.2.2 :: c4 t:=rfl
theorem c3_drop (l:List (Int × Int × Int)):∀k,(c3 l).drop (k*3)=c3 (l.drop k):=by
 induction l with
 | nil=>intro k;simp [c3]
 | cons q t ih =>
  intro k
  cases k with
  | zero=>simp
  | succ k=>rw [c3_cons,show (k+1)*3=k*3+1+1+1 from by omega];simpa using ih k
theorem c4_drop (l:List (Int × Int × Int × Int)):∀k,(c4 l).drop (k*4)=c4 (l.drop k):=by
 induction l with
 | nil=>intro k;simp [c4]
 | cons q t ih =>
  intro k
  cases k with
  | zero=>simp
  | succ k=>rw [c4_cons,show (k+1)*4=k*4+1+1+1+1 from by omega];simpa using ih k
theorem extract_at (cs news:List Value) (o n:Nat) (h:(cs.drop o).take n=news):cs.toArray.extract o (o+n)=news.toArray:=by
 rw [←h]
 apply Array.ext'
 simp [List.extract_eq_take_drop]
theorem c3_row (l:List (Int × Int × Int)) (k:Nat) (h:k < l.length):(c3 l).toArray.extract (k*3) (k*3+3)=#[.int .i32 l[k].1,.int .i32 l[k].2.1,.int .i32 l[k].2.2] :=
 extract_at _ _ _ _ (by rw [c3_drop,List.drop_eq_getElem_cons h,c3_cons];rfl)
theorem c4_row (l:List (Int × Int × Int × Int)) (k:Nat) (h:k < l.length):(c4 l).toArray.extract (k*4) (k*4+4)=#[.int .i32 l[k].1,.int .i32 l[k].2.1,.int .i32 l[k].2.2.1,.int .i32 l[k].2.2.2] :=
 extract_at _ _ _ _ (by rw [c4_drop,List.drop_eq_getElem_cons h,c4_cons];rfl)
section
variable {P:Program}
theorem run_index_row {t e:TypeId} {n sz:Nat} (cs:Array Value) (k:Nat) (ht:P.underlying t=some (.array n e)) (ha:∀w,(isAgg e).run P w=.ok true w) (hs:∀w,(sizeOf e).run P w=.ok sz w) (hk:k < n) (w:World) :
  (Instr.index t (.agg cs) (.int .i64 k)).run P w=.ok (.agg (cs.extract (k*sz) (k*sz+sz))) w:=by
 simp [Instr.index,run_underlying ht,asIntOf,hk,hs w,part,ha w]
end
def Tbl (w:World) (g:Nat) (cs:List Value):Prop:=∃t fr,w.heap[g]? = some (.cells cs.toArray t fr)
section
variable {w w':World} {g:Nat} {cs:List Value}
theorem Tbl.lt (h:Tbl w g cs):g < w.heap.size:=by obtain ⟨_,_,h⟩:=h;exact (Array.getElem?_eq_some_iff.1 h).1
theorem Tbl.cell (h:Tbl w g cs) (i:Nat):w.cell? ⟨g,i,none⟩=cs[i]?:=by obtain ⟨t,fr,h⟩:=h;exact (cell_of_row w g i _ t fr h).trans (by simp)
theorem Tbl.below {B:Nat} (h:Tbl w g cs) (hb:Below B w w') (hg:g < B):Tbl w' g cs:=by obtain ⟨t,fr,h⟩:=h;exact ⟨t,fr,(hb.block g hg).trans h⟩
theorem Tbl.alloc (h:Tbl w g cs) (o:Obj):Tbl (w.alloc o) g cs:=by have hl:=h.lt;obtain ⟨t,fr,h⟩:=h;exact ⟨t,fr,(Below.heap_alloc w o g hl).trans h⟩
end
def Laid (w:World):Prop :=
 Tbl w 1 (c3 clsRows)∧Tbl w 3 (c3 lowRows)∧Tbl w 4 (c3 highRows) ∧
 Tbl w 2 (c3 listRows)∧Tbl w 5 (nums markList)∧Tbl w 0 (c4 shRows)
theorem Laid.size {w:World} (h:Laid w):5 < w.heap.size:=h.2.2.2.2.1.lt
theorem Laid.below {w w':World} {B:Nat} (h:Laid w) (hb:Below B w w') (hB:5 < B):Laid w' :=
 ⟨h.1.below hb (by omega),h.2.1.below hb (by omega),h.2.2.1.below hb (by omega),h.2.2.2.1.below hb (by omega),h.2.2.2.2.1.below hb (by omega),h.2.2.2.2.2.below hb (by omega)⟩
theorem Laid.next {w w':World} (h:Laid w) (hb:Below w.heap.size w w'):Laid w':=h.below hb h.size
theorem Laid.alloc {w:World} (h:Laid w) (o:Obj):Laid (w.alloc o):=h.next ((Below.refl _ _).alloc (Nat.le_refl _) o)
theorem Laid.drew {w:World} (h:Laid w):Laid w.drew:=h
theorem ret_int {k:IntKind} {a b:Int} (h:a=b):Ending.returned (.int k a)=.returned (.int k b):=by rw [h]
theorem ret_bool {a b:Bool} (h:a=b):Ending.returned (.bool a)=.returned (.bool b):=by rw [h]
def Ret (w:World) (v:Value) (e:Ending) (w':World):Prop:=e=.returned v∧Below w.heap.size w w'
end Go.Proofs.YtdngaddggcmjgaaDoor.Ucd
namespace Go.Proofs.YtdngaddggcmjgaaDoor.Ucd
open Go.RowKit Utf
set_option maxHeartbeats 2000000 in
theorem class_any (r:Int) (w:World) (hL:Laid w) :
  Calls Tryd.prog 73 #[.int .i32 r] w (Ret w (.int .i64 (cls r))):=by
 obtain ⟨ty,fr,hB⟩:=hL.1
 have HB:=Lib.hid hB
 clear hL hB
 go_enter Tryd.func73,Tryd.ntmps73
 go_wp2_with (refine wpList_load_row rfl _ _ rfl 1 rfl _ _ _ _ HB.out Tryd.underlying121 rfl (by kernel_rfl) ?_)
 obtain ⟨arr,harr⟩:∃arr,arr=(c3 clsRows).toArray:=⟨_,rfl⟩
 rw [←harr]
 have hidx:∀k:Nat,k < 23→∀u:World,(Instr.index 121 (.agg arr) (.int .i64 k)).run Tryd.prog u=.ok (.agg (arr.extract (k*3) (k*3+3))) u:=fun k hk u=>run_index_row arr k Tryd.underlying121 Tryd.isAgg120 Tryd.sizeOf120 hk u
 have HI:=Lib.hid hidx
 have HA:=Lib.hid harr
 clear hidx harr
 go_loopw [6] (fun i wr=>∃k:Nat,k≤23∧i=.int .i64 k∧Hid (look 0 (clsRows.drop k) r=cls r∧Below w.heap.size w wr)) (fun i _=>23 - (intOf i).toNat)
 case atStart=>exact ⟨0,Nat.zero_le _,rfl,Lib.hid ⟨rfl,Below.refl _ _⟩⟩
 case round =>
  obtain ⟨k,hk,rfl,H⟩:=hrel
  by_cases hlt:k < 23
  ·have hx:∀u:World,(Instr.index 121 (.agg arr) (.int .i64 k)).run Tryd.prog u=.ok (.agg #[.int .i32 (clsRows[k]'hlt).1,.int .i32 (clsRows[k]'hlt).2.1,.int .i32 (clsRows[k]'hlt).2.2]) u:=fun u=>by
    rw [HI.out k hlt u,HA.out,c3_row clsRows k hlt]
   have hd:look 0 (clsRows.drop k) r=if r < (clsRows[k]'hlt).1 then 0 else if r≤(clsRows[k]'hlt).2.1 then (clsRows[k]'hlt).2.2 else look 0 (clsRows.drop (k+1)) r:=by
    rw [List.drop_eq_getElem_cons hlt];rfl
   have hv:-2147483648≤(clsRows[k]'hlt).2.2∧(clsRows[k]'hlt).2.2≤2147483647:=by
    have:∀x∈clsRows,-2147483648≤x.2.2∧x.2.2≤2147483647:=by decide +kernel
    exact this _ (List.getElem_mem _)
   generalize clsRows[k]'hlt=row at hx hd hv
   obtain ⟨lo,hi,v⟩:=row
   dsimp only at hx hd hv
   obtain ⟨v1,v2⟩:=hv
   have HD:=Lib.hid hd
   clear hd
   go_wp2
   ·go_ret
    have ht:r < lo:=by assumption
    exact ⟨ret_int (by rw [←H.out.1,HD.out,if_pos ht]),H.out.2.alloc H.out.2.size _⟩
   ·go_ret
    have ht:lo≤r:=by assumption
    have hu:r≤hi:=by assumption
    exact ⟨ret_int (by rw [←H.out.1,HD.out,if_neg (by omega),if_pos hu]),H.out.2.alloc H.out.2.size _⟩
   ·have ht:lo≤r:=by assumption
    have hu:hi < r:=by assumption
    go_roundw
    case rel=>exact ⟨k+1,by omega,by go_num,Lib.hid ⟨by rw [←H.out.1,HD.out,if_neg (by omega),if_neg (by omega)],H.out.2.alloc H.out.2.size _⟩⟩
    case measure=>simp [intOf];omega
  ·go_wp2
   go_ret
   exact ⟨ret_int (by rw [←H.out.1,List.drop_of_length_le (by show 23≤k;omega)];rfl),H.out.2⟩
end Go.Proofs.YtdngaddggcmjgaaDoor.Ucd
