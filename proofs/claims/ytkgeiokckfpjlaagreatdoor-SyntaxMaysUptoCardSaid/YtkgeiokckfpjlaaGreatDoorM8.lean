/-
  Texts of stage 7, part 8.
-/
import Derived.Test.YtkgeiokckfpjlaaGreatDoorProg
import Derived.OwnWalk
import Derived.IntWalk
import Derived.Laws.StructEq
import Derived.Laws.Rows
import Derived.LoopTactic
import Derived.Test.YtkgeiokckfpjlaaGreatDoorM1
import Derived.Test.YtkgeiokckfpjlaaGreatDoorM2
import Derived.Test.YtkgeiokckfpjlaaGreatDoorM22
namespace Go.Proofs.YtkgeiokckfpjlaaGreatDoor.Rset
open Go.RowKit
open Utf (Rd Blk)
set_option maxRecDepth 100000
def rgs (l:List Rg):List Value:=l.flatMap fun r=>[.int .i32 r.1,.int .i32 r.2]
def eds (l:List Ed):List Value:=l.flatMap fun e=>[.int .i64 e.1,.int .i64 e.2.1,.int .i64 e.2.2]
theorem rgs_cons (r:Rg) (t:List Rg):rgs (r :: t)=.int .i32 r.1 :: .int .i32 r.2 :: rgs t:=rfl
theorem eds_cons (e:Ed) (t:List Ed):eds (e :: t)=.int .i64 e.1 :: .int .i64 e.2.1 :: .int .i64 e.2.2 :: eds t:=rfl
theorem rgs_append (l m:List Rg):rgs (l++m)=rgs l++rgs m:=List.flatMap_append
theorem eds_append (l m:List Ed):eds (l++m)=eds l++eds m:=List.flatMap_append
theorem rgs_len (l:List Rg):(rgs l).length=l.length*2:=by
 induction l with
 | nil=>rfl
 | cons r t ih=>rw [rgs_cons];simp only [List.length_cons,ih];omega
theorem eds_len (l:List Ed):(eds l).length=l.length*3:=by
 induction l with
 | nil=>rfl
 | cons r t ih=>rw [eds_cons];simp only [List.length_cons,ih];omega
theorem rgs_get (l:List Rg):∀{k:Nat} (h:k < l.length),(rgs l)[k*2]? = some (.int .i32 l[k].1)∧(rgs l)[k*2+1]? = some (.int .i32 l[k].2):=by
 induction l with
 | nil=>intro k h;simp at h
 | cons r t ih =>
  intro k h
  rw [rgs_cons]
  cases k with
  | zero=>exact ⟨rfl,rfl⟩
  | succ k =>
   have:=ih (k:=k) (by simpa using h)
   rw [show (k+1)*2=k*2+1+1 from by omega]
   simpa using this
theorem eds_get (l:List Ed):∀{k:Nat} (h:k < l.length),(eds l)[k*3]? = some (.int .i64 l[k].1)∧(eds l)[k*3+1]? = some (.int .i64 l[k].2.1)∧(eds l)[k*3+2]? = some (.int .i64 l[k].2.2):=by
 induction l with
 | nil=>intro k h;simp at h
 | cons r t ih =>
  intro k h
  rw [eds_cons]
  cases k with
  | zero=>exact ⟨rfl,rfl,rfl⟩
  | succ k =>
   have:=ih (k:=k) (by simpa using h)
   rw [show (k+1)*3=k*3+1+1+1 from by omega]
   simpa using this
theorem rgs_drop (l:List Rg):∀k,(rgs l).drop (k*2)=rgs (l.drop k):=by
 induction l with
 | nil=>intro k;simp [rgs]
 | cons q t ih =>
  intro k
  cases k with
  | zero=>simp
  | succ k=>rw [rgs_cons,show (k+1)*2=k*2+1+1 from by omega];simpa using ih k
theorem rgs_take (l:List Rg):∀k,(rgs l).take (k*2)=rgs (l.take k):=by
 induction l with
 | nil=>intro k;simp [rgs]
 | cons q t ih =>
  intro k
  cases k with
  | zero=>simp [rgs]
  | succ k=>rw [rgs_cons,show (k+1)*2=k*2+1+1 from by omega];simpa [rgs_cons] using ih k
theorem rgs_one (l:List Rg):∀u∈rgs l,u.oneCell'=true:=by
 intro u hu
 simp only [rgs,List.mem_flatMap,List.mem_cons,List.not_mem_nil,or_false] at hu
 obtain ⟨n,_,rfl | rfl⟩:=hu <;> rfl
theorem eds_one (l:List Ed):∀u∈eds l,u.oneCell'=true:=by
 intro u hu
 simp only [eds,List.mem_flatMap,List.mem_cons,List.not_mem_nil,or_false] at hu
 obtain ⟨n,_,rfl | rfl | rfl⟩:=hu <;> rfl
theorem rgs_set_hi (i:List Rg) (r:Rg) (y:Int):(rgs (i++[r])).set (i.length*2+1) (.int .i32 y)=rgs (i++[(r.1,y)]):=by
 rw [rgs_append,rgs_append,List.set_append_right _ _ (by rw [rgs_len];omega),rgs_len,show i.length*2+1 - i.length*2=1 from by omega]
 rfl
section
variable {w w':World} {B:Nat}
theorem rd_rg {l:List Rg} {b o:Nat} (h:Rd w B (some ⟨b,o,none⟩) (rgs l)) {k:Nat} (hk:k < l.length) :
  w.cell? ⟨b,o+k*2,none⟩=some (.int .i32 l[k].1)∧w.cell? ⟨b,o+k*2+1,none⟩=some (.int .i32 l[k].2):=by
 obtain ⟨b',o',e,_,hc⟩:=h (by intro e;have:=congrArg List.length e;rw [rgs_len,List.length_nil] at this;omega)
 simp only [Option.some.injEq,Addr.mk.injEq,and_true] at e
 obtain ⟨rfl,rfl⟩:=e
 obtain ⟨h1,h2⟩:=rgs_get l hk
 exact ⟨hc _ _ h1,by rw [Nat.add_assoc];exact hc _ _ h2⟩
theorem rd_ed {l:List Ed} {b o:Nat} (h:Rd w B (some ⟨b,o,none⟩) (eds l)) {k:Nat} (hk:k < l.length) :
  w.cell? ⟨b,o+k*3,none⟩=some (.int .i64 l[k].1)∧w.cell? ⟨b,o+k*3+1,none⟩=some (.int .i64 l[k].2.1)∧w.cell? ⟨b,o+k*3+2,none⟩=some (.int .i64 l[k].2.2):=by
 obtain ⟨b',o',e,_,hc⟩:=h (by intro e;have:=congrArg List.length e;rw [eds_len,List.length_nil] at this;omega)
 simp only [Option.some.injEq,Addr.mk.injEq,and_true] at e
 obtain ⟨rfl,rfl⟩:=e
 obtain ⟨h1,h2,h3⟩:=eds_get l hk
 exact ⟨hc _ _ h1,by rw [Nat.add_assoc];exact hc _ _ h2,by rw [Nat.add_assoc];exact hc _ _ h3⟩
theorem rd_form_rg {l:List Rg} {A:Option Addr} (h:Rd w B A (rgs l)) (hn:0 < l.length):∃b o,A=some ⟨b,o,none⟩∧b < B:=h.form (by rw [rgs_len];omega)
end
theorem infoRg:(Tryz.prog.info? 48).map (fun i=>(i.zero,i.size,i.bytes))=some (some (.agg #[.int .i32 0,.int .i32 0]),2,8):=by kernel_rfl
theorem infoI32:(Tryz.prog.info? 21).map (fun i=>(i.zero,i.size,i.bytes))=some (some (.int .i32 0),1,4):=by kernel_rfl
theorem rd_new (u:World) (t:TypeId) (cs:List Value) (g:Nat) (hg:u.heap.size=g):Rd (u.alloc (.cells cs.toArray t)) (g+1) (some ⟨g,0,none⟩) cs:=fun _ =>
 ⟨g,0,rfl,by omega,fun j x hx=>by subst hg;rw [(Blk.new u t cs).cell,Nat.zero_add];exact hx⟩
theorem own_below {w w':World} {base:Nat} {e:TypeId} {size:Nat} {v:Value} {n:Nat} {xs:List Value} (h:w.ownsRow base e size v n xs) (hb:Below w.heap.size w w'):w'.ownsRow base e size v n xs :=
 h.kept (row:=none) ⟨hb.os,hb.tape,hb.output,hb.size,fun k hk _=>hb.block k hk⟩ (by cases v.ownBlock <;> simp)
theorem own_form {w:World} {base:Nat} {e:TypeId} {size n:Nat} {v:Value} {xs:List Value} (h:w.ownsRow base e size v n xs):∃A c,v=.slice A n c∧n≤c∧c≤9223372036854775807∧Rd w w.heap.size A xs:=by
 have h2:=h.2
 rcases h2 with ⟨rfl,rfl⟩ | ⟨g,cap,cur,rfl,_,_,h1,h2,_⟩
 ·exact ⟨none,0,rfl,Nat.le_refl _,by omega,Rd.of_own h⟩
 ·exact ⟨_,cap,rfl,h1,h2,Rd.of_own h⟩
theorem own_mono {w:World} {base base':Nat} {e:TypeId} {size:Nat} {v:Value} {n:Nat} {xs:List Value} (h:w.ownsRow base e size v n xs) (hb:base'≤base):w.ownsRow base' e size v n xs:=by
 refine ⟨h.1,?_⟩
 rcases h.2 with h0 | ⟨g,cap,cur,rfl,h1,h2⟩
 ·exact .inl h0
 ·exact .inr ⟨g,cap,cur,rfl,Nat.le_trans hb h1,h2⟩
theorem below_drewN {B:Nat} {u v:World} (h:Below B u v) (k:Nat):Below B u (v.drewN k):=⟨h.os,h.tape,h.output,h.size,h.block⟩
theorem ret_bool {a b:Bool} (h:a=b):Ending.returned (.bool a)=.returned (.bool b):=by rw [h]
def Ret (w:World) (v:Value) (e:Ending) (w':World):Prop:=e=.returned v∧Below w.heap.size w w'
def Own (w:World) (L:List Rg) (e:Ending) (w':World):Prop:=∃v,e=.returned v∧w'.ownsRow w.heap.size 48 2 v L.length (rgs L)∧Below w.heap.size w w'
def Fit (l:List Rg):Prop:=∀r∈l,(-2147483648≤r.1∧r.1≤2147483647)∧-2147483648≤r.2∧r.2≤2147483647
theorem Nm.fit {l:List Rg} (h:Nm l):Fit l:=fun r hr=>by have:=h.ok r hr;omega
theorem rgFields:Tryz.prog.underlying 48=some (.struct (Tryz.prog.fieldsOf 48)):=by kernel_rfl
theorem rgHeld:Tryz.prog.stoodInHeld 48=false:=by kernel_rfl
theorem neq_rg (w:World) (a b a' b':Int):(binOp .neq 48 (.agg #[.int .i32 a,.int .i32 b]) (.agg #[.int .i32 a',.int .i32 b'])).run Tryz.prog w=.ok (.bool (!(a == a' && b == b'))) w:=by
 have u21:=Tryz.underlying21
 have a21:=Tryz.isAgg21
 have z21:=Tryz.sizeOf21
 rw [run_neq_struct,show (10000:Nat)=9999+1 from rfl,run_equalIn_agg w 9999 _ _ _ rgFields rgHeld]
 simp only [Program.fieldsOf,Tryz.underlying48]
 go_simp
 by_cases h1:a=a' <;> by_cases h2:b=b' <;> simp [h1,h2]
end Go.Proofs.YtkgeiokckfpjlaaGreatDoor.Rset
namespace Go.Proofs.YtkgeiokckfpjlaaGreatDoor.Ucd
open Go.RowKit Utf
def c3 (l:List (Int × Int × Int)):List Value:=l.flatMap fun x=>[.int .i32 x.1,.int .i32 x.2.1,.int .i32 x.2.2]
def c4 (l:List (Int × Int × Int × Int)):List Value:=l.flatMap fun x=>[.int .i32 x.1,.int .i32 x.2.1,.int .i32 x.2.2.1,.int .i32 x.2.2.2]
theorem c3_cons (q:Int × Int × Int) (t:List (Int × Int × Int)):c3 (q :: t)=.int .i32 q.1 :: .int .i32 q.2.1 :: .int .i32 q.2.2 :: c3 t:=rfl
theorem c3_drop (l:List (Int × Int × Int)):∀k,(c3 l).drop (k*3)=c3 (l.drop k):=by
 induction l with
 | nil=>intro k;simp [c3]
 | cons q t ih =>
  intro k
  cases k with
  | zero=>simp
  | succ k=>rw [c3_cons,show (k+1)*3=k*3+1+1+1 from by omega];simpa using ih k
theorem extract_at (cs news:List Value) (o n:Nat) (h:(cs.drop o).take n=news):cs.toArray.extract o (o+n)=news.toArray:=by
 rw [←h]
 apply Array.ext'
 simp [List.extract_eq_take_drop]
theorem c3_row (l:List (Int × Int × Int)) (k:Nat) (h:k < l.length):(c3 l).toArray.extract (k*3) (k*3+3)=#[.int .i32 l[k].1,.int .i32 l[k].2.1,.int .i32 l[k].2.2] :=
 extract_at _ _ _ _ (by rw [c3_drop,List.drop_eq_getElem_cons h,c3_cons];rfl)
section
variable {P:Program}
theorem run_index_row {t e:TypeId} {n sz:Nat} (cs:Array Value) (k:Nat) (ht:P.underlying t=some (.array n e)) (ha:∀w,(isAgg e).run P w=.ok true w) (hs:∀w,(sizeOf e).run P w=.ok sz w) (hk:k < n) (w:World) :
  (Instr.index t (.agg cs) (.int .i64 k)).run P w=.ok (.agg (cs.extract (k*sz) (k*sz+sz))) w:=by
 simp [Instr.index,run_underlying ht,asIntOf,hk,hs w,part,ha w]
end
def Tbl (w:World) (g:Nat) (cs:List Value):Prop:=∃t fr,w.heap[g]? = some (.cells cs.toArray t fr)
section
variable {w w':World} {g:Nat} {cs:List Value}
theorem Tbl.lt (h:Tbl w g cs):g < w.heap.size:=by obtain ⟨_,_,h⟩:=h;exact (Array.getElem?_eq_some_iff.1 h).1
theorem Tbl.cell (h:Tbl w g cs) (i:Nat):w.cell? ⟨g,i,none⟩=cs[i]?:=by obtain ⟨t,fr,h⟩:=h;exact (cell_of_row w g i _ t fr h).trans (by simp)
theorem Tbl.below {B:Nat} (h:Tbl w g cs) (hb:Below B w w') (hg:g < B):Tbl w' g cs:=by obtain ⟨t,fr,h⟩:=h;exact ⟨t,fr,(hb.block g hg).trans h⟩
theorem Tbl.alloc (h:Tbl w g cs) (o:Obj):Tbl (w.alloc o) g cs:=by have hl:=h.lt;obtain ⟨t,fr,h⟩:=h;exact ⟨t,fr,(Below.heap_alloc w o g hl).trans h⟩
end
def Laid (w:World):Prop :=
 Tbl w 5 (c3 clsRows)∧Tbl w 7 (c3 lowRows)∧Tbl w 8 (c3 highRows)∧Tbl w 4 (c3 listRows)∧Tbl w 6 (nums markList)∧True
theorem Laid.size {w:World} (h:Laid w):8 < w.heap.size:=h.2.2.1.lt
theorem Laid.below {w w':World} {B:Nat} (h:Laid w) (hb:Below B w w') (hB:8 < B):Laid w' :=
 ⟨h.1.below hb (by omega),h.2.1.below hb (by omega),h.2.2.1.below hb (by omega),h.2.2.2.1.below hb (by omega),h.2.2.2.2.1.below hb (by omega),trivial⟩
theorem Laid.next {w w':World} (h:Laid w) (hb:Below w.heap.size w w'):Laid w':=h.below hb h.size
theorem Laid.alloc {w:World} (h:Laid w) (o:Obj):Laid (w.alloc o):=h.next ((Below.refl _ _).alloc (Nat.le_refl _) o)
theorem Laid.drew {w:World} (h:Laid w):Laid w.drew:=h
theorem ret_int {k:IntKind} {a b:Int} (h:a=b):Ending.returned (.int k a)=.returned (.int k b):=by rw [h]
theorem ret_bool {a b:Bool} (h:a=b):Ending.returned (.bool a)=.returned (.bool b):=by rw [h]
def Ret (w:World) (v:Value) (e:Ending) (w':World):Prop:=e=.returned v∧Below w.heap.size w w'
end Go.Proofs.YtkgeiokckfpjlaaGreatDoor.Ucd
namespace Go.Proofs.YtkgeiokckfpjlaaGreatDoor.Ucd
open Go.RowKit Utf
set_option maxHeartbeats 2000000 in
theorem class_any (r:Int) (w:World) (hL:Laid w) :
  Calls Tryz.prog 200 #[.int .i32 r] w (Ret w (.int .i64 (cls r))):=by
 obtain ⟨ty,fr,hB⟩:=hL.1
 have HB:=Lib.hid hB
 clear hL hB
 go_enter Tryz.func200,Tryz.ntmps200
 go_wp2_with (refine wpList_load_row rfl _ _ rfl 5 rfl _ _ _ _ HB.out Tryz.underlying252 rfl (by kernel_rfl) ?_)
 obtain ⟨arr,harr⟩:∃arr,arr=(c3 clsRows).toArray:=⟨_,rfl⟩
 rw [←harr]
 have hidx:∀k:Nat,k < 23→∀u:World,(Instr.index 252 (.agg arr) (.int .i64 k)).run Tryz.prog u=.ok (.agg (arr.extract (k*3) (k*3+3))) u:=fun k hk u=>run_index_row arr k Tryz.underlying252 Tryz.isAgg251 Tryz.sizeOf251 hk u
 have HI:=Lib.hid hidx
 have HA:=Lib.hid harr
 clear hidx harr
 go_loopw [6] (fun i wr=>∃k:Nat,k≤23∧i=.int .i64 k∧Hid (look 0 (clsRows.drop k) r=cls r∧Below w.heap.size w wr)) (fun i _=>23 - (intOf i).toNat)
 case atStart=>exact ⟨0,Nat.zero_le _,rfl,Lib.hid ⟨rfl,Below.refl _ _⟩⟩
 case round =>
  obtain ⟨k,hk,rfl,H⟩:=hrel
  by_cases hlt:k < 23
  ·have hx:∀u:World,(Instr.index 252 (.agg arr) (.int .i64 k)).run Tryz.prog u=.ok (.agg #[.int .i32 (clsRows[k]'hlt).1,.int .i32 (clsRows[k]'hlt).2.1,.int .i32 (clsRows[k]'hlt).2.2]) u:=fun u=>by
    rw [HI.out k hlt u,HA.out,c3_row clsRows k hlt]
   have hd:look 0 (clsRows.drop k) r=if r < (clsRows[k]'hlt).1 then 0 else if r≤(clsRows[k]'hlt).2.1 then (clsRows[k]'hlt).2.2 else look 0 (clsRows.drop (k+1)) r:=by
    rw [List.drop_eq_getElem_cons hlt];rfl
   have hv:-2147483648≤(clsRows[k]'hlt).2.2∧(clsRows[k]'hlt).2.2≤2147483647:=by
    have:∀x∈clsRows,-2147483648≤x.2.2∧x.2.2≤2147483647:=by decide +kernel
    exact this _ (List.getElem_mem _)
   generalize clsRows[k]'hlt=row at hx hd hv
   obtain ⟨lo,hi,v⟩:=row
   dsimp only at hx hd hv
   obtain ⟨v1,v2⟩:=hv
   have HD:=Lib.hid hd
   clear hd
   go_wp2
   ·go_ret
    have ht:r < lo:=by assumption
    exact ⟨ret_int (by rw [←H.out.1,HD.out,if_pos ht]),H.out.2.alloc H.out.2.size _⟩
   ·go_ret
    have ht:lo≤r:=by assumption
    have hu:r≤hi:=by assumption
    exact ⟨ret_int (by rw [←H.out.1,HD.out,if_neg (by omega),if_pos hu]),H.out.2.alloc H.out.2.size _⟩
   ·have ht:lo≤r:=by assumption
    have hu:hi < r:=by assumption
    go_roundw
    case rel=>exact ⟨k+1,by omega,by go_num,Lib.hid ⟨by rw [←H.out.1,HD.out,if_neg (by omega),if_neg (by omega)],H.out.2.alloc H.out.2.size _⟩⟩
    case measure=>simp [intOf];omega
  ·go_wp2
   go_ret
   exact ⟨ret_int (by rw [←H.out.1,List.drop_of_length_le (by show 23≤k;omega)];rfl),H.out.2⟩
end Go.Proofs.YtkgeiokckfpjlaaGreatDoor.Ucd
