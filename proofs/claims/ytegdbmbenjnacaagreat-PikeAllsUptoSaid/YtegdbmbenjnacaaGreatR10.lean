/-
  Texts of stage 7, part 10.
-/
import Derived.Shelf.Sort.Plain
import Derived.Shelf.Slices.In.SortNone
import Derived.Shelf.Slices.CompactS
import Derived.Shelf.Slices.Turned
import Derived.Shelf.Slices.Equal
import Derived.Shelf.Slices.Empties2
import Derived.Shelf.Spec.SearchS
import Derived.Lib.AppendZeros
import Derived.Lib.SliceRun
import Derived.Test.YtegdbmbenjnacaaGreatR4
import Derived.Test.YtegdbmbenjnacaaGreatR9
import Derived.Test.YtegdbmbenjnacaaGreatR12
namespace Go.Proofs.YtegdbmbenjnacaaGreat.Sset
open Go.Shelf Go.RowKit Go.Lib Go.Sort
open Utf (Rd Blk)
open Rset
set_option maxRecDepth 100000
def eqT_ren:Go.Shelf.Ren:=⟨fun | 193=>103 | n=>n,fun | 31=>23 | 9=>9 | 4=>4 | 3=>3 | 0=>0 | n=>n,fun | n=>n⟩
theorem eqT:Go.Proofs.Lays.n193 Tryz.prog eqT_ren:={
 mixed:=by kernel_rfl
 f193:=Tryz.func103.trans (congrArg some (by kernel_rfl))
 t0:=Tryz.underlying0
 a0:=Tryz.isAgg0
 z0:=Tryz.sizeOf0
 v0:=Tryz.zeroValue0
 t3:=Tryz.underlying3
 a3:=Tryz.isAgg3
 z3:=Tryz.sizeOf3
 v3:=Tryz.zeroValue3
 t4:=Tryz.underlying4
 a4:=Tryz.isAgg4
 z4:=Tryz.sizeOf4
 v4:=Tryz.zeroValue4
 t9:=Tryz.underlying9
 a9:=Tryz.isAgg9
 z9:=Tryz.sizeOf9
 v9:=Tryz.zeroValue9
 t31:=Tryz.underlying23
 a31:=Tryz.isAgg23
 z31:=Tryz.sizeOf23
 v31:=Tryz.zeroValue23 }
def conT_ren:Go.Shelf.Ren:=⟨fun | 110=>73 | 109=>94 | n=>n,fun | 31=>23 | 9=>9 | 4=>4 | 3=>3 | 0=>0 | n=>n,fun | n=>n⟩
theorem conT:Go.Proofs.Lays.n110 Tryz.prog conT_ren:={
 mixed:=by kernel_rfl
 f109:=Tryz.func94.trans (congrArg some (by kernel_rfl))
 f110:=Tryz.func73.trans (congrArg some (by kernel_rfl))
 t0:=Tryz.underlying0
 a0:=Tryz.isAgg0
 z0:=Tryz.sizeOf0
 v0:=Tryz.zeroValue0
 t3:=Tryz.underlying3
 a3:=Tryz.isAgg3
 z3:=Tryz.sizeOf3
 v3:=Tryz.zeroValue3
 t4:=Tryz.underlying4
 a4:=Tryz.isAgg4
 z4:=Tryz.sizeOf4
 v4:=Tryz.zeroValue4
 t9:=Tryz.underlying9
 a9:=Tryz.isAgg9
 z9:=Tryz.sizeOf9
 v9:=Tryz.zeroValue9
 t31:=Tryz.underlying23
 a31:=Tryz.isAgg23
 z31:=Tryz.sizeOf23
 v31:=Tryz.zeroValue23 }
def sortT_ren:Go.Shelf.Ren:=⟨fun | 190=>143 | 125=>162 | 258=>161 | 128=>176 | 129=>177 | 302=>167 | 303=>168 | 304=>169 | 305=>170 | 306=>171 | 307=>172 | 308=>173 | 309=>174 | 310=>175 | 333=>179 | 329=>180 | 330=>181 | 334=>182 | 335=>183 | 336=>184 | 344=>185 | n=>n,fun | 31=>23 | 9=>9 | 3=>3 | 46=>57 | 0=>0 | 51=>229 | 53=>231 | 4=>4 | 183=>222 | 182=>221 | 131=>63 | 5=>5 | 218=>232 | 222=>236 | 228=>238 | 229=>207 | n=>n,fun | n=>n⟩
theorem sortT:Go.Proofs.Lays.n190 Tryz.prog sortT_ren:={
 mixed:=by kernel_rfl
 f125:=Tryz.func162.trans (congrArg some (by kernel_rfl))
 f128:=Tryz.func176.trans (congrArg some (by kernel_rfl))
 f129:=Tryz.func177.trans (congrArg some (by kernel_rfl))
 f190:=Tryz.func143.trans (congrArg some (by kernel_rfl))
 f258:=Tryz.func161.trans (congrArg some (by kernel_rfl))
 f302:=Tryz.func167.trans (congrArg some (by kernel_rfl))
 f303:=Tryz.func168.trans (congrArg some (by kernel_rfl))
 f304:=Tryz.func169.trans (congrArg some (by kernel_rfl))
 f305:=Tryz.func170.trans (congrArg some (by kernel_rfl))
 f306:=Tryz.func171.trans (congrArg some (by kernel_rfl))
 f307:=Tryz.func172.trans (congrArg some (by kernel_rfl))
 f308:=Tryz.func173.trans (congrArg some (by kernel_rfl))
 f309:=Tryz.func174.trans (congrArg some (by kernel_rfl))
 f310:=Tryz.func175.trans (congrArg some (by kernel_rfl))
 f329:=Tryz.func180.trans (congrArg some (by kernel_rfl))
 f330:=Tryz.func181.trans (congrArg some (by kernel_rfl))
 f333:=Tryz.func179.trans (congrArg some (by kernel_rfl))
 f334:=Tryz.func182.trans (congrArg some (by kernel_rfl))
 f335:=Tryz.func183.trans (congrArg some (by kernel_rfl))
 f336:=Tryz.func184.trans (congrArg some (by kernel_rfl))
 f344:=Tryz.func185.trans (congrArg some (by kernel_rfl))
 t0:=Tryz.underlying0
 a0:=Tryz.isAgg0
 z0:=Tryz.sizeOf0
 v0:=Tryz.zeroValue0
 t3:=Tryz.underlying3
 a3:=Tryz.isAgg3
 z3:=Tryz.sizeOf3
 v3:=Tryz.zeroValue3
 t4:=Tryz.underlying4
 a4:=Tryz.isAgg4
 z4:=Tryz.sizeOf4
 v4:=Tryz.zeroValue4
 t5:=Tryz.underlying5
 a5:=Tryz.isAgg5
 z5:=Tryz.sizeOf5
 v5:=Tryz.zeroValue5
 t9:=Tryz.underlying9
 a9:=Tryz.isAgg9
 z9:=Tryz.sizeOf9
 v9:=Tryz.zeroValue9
 t31:=Tryz.underlying23
 a31:=Tryz.isAgg23
 z31:=Tryz.sizeOf23
 v31:=Tryz.zeroValue23
 t46:=Tryz.underlying57
 a46:=Tryz.isAgg57
 z46:=Tryz.sizeOf57
 v46:=Tryz.zeroValue57
 t51:=Tryz.underlying229
 a51:=Tryz.isAgg229
 z51:=Tryz.sizeOf229
 v51:=Tryz.zeroValue229
 t53:=Tryz.underlying231
 a53:=Tryz.isAgg231
 z53:=Tryz.sizeOf231
 v53:=Tryz.zeroValue231
 t131:=Tryz.underlying63
 a131:=Tryz.isAgg63
 z131:=Tryz.sizeOf63
 v131:=Tryz.zeroValue63
 t182:=Tryz.underlying221
 a182:=Tryz.isAgg221
 z182:=Tryz.sizeOf221
 v182:=Tryz.zeroValue221
 t183:=Tryz.underlying222
 a183:=Tryz.isAgg222
 z183:=Tryz.sizeOf222
 v183:=Tryz.zeroValue222
 t218:=Tryz.underlying232
 a218:=Tryz.isAgg232
 z218:=Tryz.sizeOf232
 v218:=Tryz.zeroValue232
 t222:=Tryz.underlying236
 a222:=Tryz.isAgg236
 z222:=Tryz.sizeOf236
 v222:=Tryz.zeroValue236
 t228:=Tryz.underlying238
 a228:=Tryz.isAgg238
 z228:=Tryz.sizeOf238
 v228:=Tryz.zeroValue238
 t229:=Tryz.underlying207
 a229:=Tryz.isAgg207
 z229:=Tryz.sizeOf207
 v229:=Tryz.zeroValue207 }
def compT_ren:Go.Shelf.Ren:=⟨fun | 194=>144 | n=>n,fun | 31=>23 | 9=>9 | 3=>3 | 4=>4 | 0=>0 | n=>n,fun | n=>n⟩
theorem compT:Go.Proofs.Lays.n194 Tryz.prog compT_ren:={
 mixed:=by kernel_rfl
 f194:=Tryz.func144.trans (congrArg some (by kernel_rfl))
 t0:=Tryz.underlying0
 a0:=Tryz.isAgg0
 z0:=Tryz.sizeOf0
 v0:=Tryz.zeroValue0
 t3:=Tryz.underlying3
 a3:=Tryz.isAgg3
 z3:=Tryz.sizeOf3
 v3:=Tryz.zeroValue3
 t4:=Tryz.underlying4
 a4:=Tryz.isAgg4
 z4:=Tryz.sizeOf4
 v4:=Tryz.zeroValue4
 t9:=Tryz.underlying9
 a9:=Tryz.isAgg9
 z9:=Tryz.sizeOf9
 v9:=Tryz.zeroValue9
 t31:=Tryz.underlying23
 a31:=Tryz.isAgg23
 z31:=Tryz.sizeOf23
 v31:=Tryz.zeroValue23 }
def ba (l:Tx):ByteArray:=⟨l.toArray⟩
theorem ba_list (l:Tx):(ba l).toList=l:=mk_toList l
theorem ba_inj {x y:Tx} (h:ba x=ba y):x=y:=by rw [←ba_list x,h,ba_list]
theorem map_ba {l:List Tx} {k:Nat} (h:k < l.length):(l.map ba).getD k ByteArray.empty=ba l[k]:=by simp [List.getD,List.getElem?_eq_getElem h]
theorem cells_ba {w:World} {B:Nat} {l:List Tx} {b o:Nat} (h:Rd w B (some ⟨b,o,none⟩) (txs l)):∀j,j < (l.map ba).length→w.cell? ⟨b,o+j,none⟩=some (.string ((l.map ba).getD j ByteArray.empty)):=fun j hj=>by
 rw [List.length_map] at hj
 rw [map_ba hj]
 exact rd_tx h hj
theorem eqT_any (A B:Option Addr) (a b:List Tx) (n m c d:Nat) (w:World) (ha:Rd w w.heap.size A (txs a)) (hb:Rd w w.heap.size B (txs b)) (hn:a.length=n) (hm:b.length=m) (hn1:n≤1099511627776) (hm1:m≤1099511627776) :
  Calls Tryz.prog 103 #[.slice A n c,.slice B m d] w fun e w'=>e=.returned (.bool (decide (a=b)))∧∃q,w'=w.drewN q:=by
 by_cases hnm:n=m
 ·by_cases h0:n=0
  ·subst h0
   have ha0:a=[]:=List.eq_nil_of_length_eq_zero hn
   have hb0:b=[]:=List.eq_nil_of_length_eq_zero (by omega)
   subst ha0 hb0
   have hcon:=Any.slices_Equal_string_empty eqT A B c m d w (by omega)
   change Calls Tryz.prog 103 _ _ _ at hcon
   exact hcon.mono fun e w' ⟨h1,h2⟩=>⟨by rw [h1,←hnm];rfl,0,h2⟩
  ·obtain ⟨b1,o1,rfl,_⟩:=rd_form_tx ha (by omega)
   obtain ⟨b2,o2,rfl,_⟩:=rd_form_tx hb (by omega)
   have hcon:=Any.slices_Equal_string eqT b1 o1 n c b2 o2 m d (a.map ba) (b.map ba) w (by rw [List.length_map];omega) (by rw [List.length_map];omega) (by omega) (by omega) (cells_ba ha) (cells_ba hb)
   change Calls Tryz.prog 103 _ _ _ at hcon
   refine hcon.mono fun e w' ⟨h1,h2⟩=>⟨?_,h2⟩
   rw [h1,List.take_of_length_le (by rw [List.length_map];omega),List.take_of_length_le (by rw [List.length_map];omega)]
   refine ret_bool ?_
   rw [decide_eq_decide]
   exact ⟨fun h=>List.map_inj_right (fun _ _ h=>ba_inj h) |>.1 h,fun h=>by rw [h]⟩
 ·have hcon:=Any.slices_Equal_string_lens eqT A B n c m d w hnm
  change Calls Tryz.prog 103 _ _ _ at hcon
  refine hcon.mono fun e w' ⟨h1,h2⟩=>⟨?_,0,h2⟩
  rw [h1]
  refine ret_bool ?_
  symm
  rw [decide_eq_false_iff_not]
  rintro rfl
  exact hnm (hn.symm.trans hm)
theorem con_any (A:Option Addr) (a:List Tx) (n c:Nat) (X:ByteArray) (x:Tx) (hX:X.toList=x) (w:World) (ha:Rd w w.heap.size A (txs a)) (hn:a.length=n) (hn1:n≤1099511627776) :
  Calls Tryz.prog 73 #[.slice A n c,.string X] w fun e w'=>e=.returned (.bool (isIn a x))∧w=w':=by
 by_cases h0:n=0
 ·subst h0
  have ha0:a=[]:=List.eq_nil_of_length_eq_zero hn
  subst ha0
  have hcon:=Any.slices_Contains_string_empty conT A c X w
  change Calls Tryz.prog 73 _ _ _ at hcon
  exact hcon.mono fun e w' ⟨h1,h2⟩=>⟨by rw [h1,isIn_nil],h2.symm⟩
 ·obtain ⟨b1,o1,rfl,_⟩:=rd_form_tx ha (by omega)
  have hcon:=Any.slices_Contains_string conT b1 o1 n c (a.map ba) X w (by rw [List.length_map];omega) (by omega) (cells_ba ha)
  change Calls Tryz.prog 73 _ _ _ at hcon
  refine hcon.mono fun e w' ⟨h1,h2⟩=>⟨?_,h2.symm⟩
  rw [h1,List.take_of_length_le (by rw [List.length_map];omega)]
  refine ret_bool ?_
  rw [toList_mk hX]
  rw [Bool.eq_iff_iff,Lib.containsS_iff,isIn_iff,List.mem_map]
  constructor
  ·rintro ⟨z,hz,h⟩
   have:=ba_inj (x:=z) (y:=x) h
   subst this
   exact hz
  ·intro h
   exact ⟨x,h,rfl⟩
theorem grow_none (u:World):grow u #[]=u:=by cases u;simp [grow]
theorem own_put {w:World} {base g n cap:Nat} {L L':List Tx} (h:w.ownsRow base 9 1 (.slice (some ⟨g,0,none⟩) n cap) n (txs L)) (hl:L'.length=n) (k:Nat) (os:Array Obj) :
  (grow (putRow encStr (Sort.ahead w k) g 0 L'.toArray) os).ownsRow base 9 1 (.slice (some ⟨g,0,none⟩) n cap) n (txs L')∧w.grownBy (grow (putRow encStr (Sort.ahead w k) g 0 L'.toArray) os) (some g):=by
 rcases h.2 with ⟨hv,_⟩ | ⟨g',cap',cur,hv,h1,h2,h3,h4,h5,h6⟩
 ·cases hv
 ·simp only [Value.slice.injEq,Option.some.injEq,Addr.mk.injEq,and_true,true_and] at hv
  obtain ⟨rfl,rfl⟩:=hv
  have hlt:g < w.heap.size:=(Array.getElem?_eq_some_iff.1 h2).1
  refine ⟨⟨by rw [txs_len,hl,Nat.mul_one],.inr ⟨g,cap,putCells encStr 0 L'.toArray cur,rfl,h1,?_,h3,h4,by simp [putCells,h5],?_⟩⟩,⟨rfl,rfl,rfl,by simp,fun j hj hne=>?_⟩⟩
  ·rw [heap_grow_old _ _ (by simpa using hlt)]
   simp [putRow,mapBlock,Sort.ahead,Array.getElem?_modify,h2,onCells]
  ·apply List.ext_getElem?
   intro j
   rw [Nat.mul_one,List.getElem?_take]
   by_cases hj:j < n
   ·rw [if_pos hj,txs_get (by omega)]
    simp only [putCells,Array.getElem?_toList,Array.getElem?_mapIdx]
    rw [Array.getElem?_eq_getElem (by omega)]
    simp only [Option.map_some]
    rw [if_pos ⟨Nat.zero_le _,by simp;omega⟩,Nat.sub_zero,getElem!_pos _ j (by simp;omega)]
    simp
   ·rw [if_neg hj,List.getElem?_eq_none (by rw [txs_len];omega)]
  ·rw [heap_grow_old _ _ (by simpa using hj)]
   have:g≠j:=fun e=>hne (by rw [e])
   simp [putRow,mapBlock,Sort.ahead,Array.getElem?_modify,this]
theorem holds_own {w:World} {base g n cap:Nat} {L:List Tx} (h:w.ownsRow base 9 1 (.slice (some ⟨g,0,none⟩) n cap) n (txs L)):Holds encStr w g 0 L.toArray:=by
 intro j hj
 have hl:=h.1
 rw [txs_len] at hl
 have hj':j < L.length:=by simpa using hj
 refine ⟨?_,h.frozenAt _⟩
 rw [Nat.zero_add,h.cellAt j (by omega),txs_get hj',getElem!_pos _ j (by simpa using hj')]
 simp
theorem own_pre {w:World} {base g n k cap:Nat} {L:List Tx} (h:w.ownsRow base 9 1 (.slice (some ⟨g,0,none⟩) n cap) n (txs L)) (hk:k≤n):w.ownsRow base 9 1 (.slice (some ⟨g,0,none⟩) k cap) k (txs (L.take k)):=by
 have hl:=h.1
 rw [txs_len,Nat.mul_one] at hl
 rcases h.2 with ⟨hv,_⟩ | ⟨g',cap',cur,hv,h1,h2,h3,h4,h5,h6⟩
 ·cases hv
 ·simp only [Value.slice.injEq,Option.some.injEq,Addr.mk.injEq,and_true,true_and] at hv
  obtain ⟨rfl,rfl⟩:=hv
  refine ⟨by rw [txs_len,List.length_take];omega,.inr ⟨g,cap,cur,rfl,h1,h2,by omega,h4,h5,?_⟩⟩
  rw [←txs_take,←h6,List.take_take]
  congr 1
  omega
def OwnT (B:Nat) (w:World) (L:List Tx) (e:Ending) (w':World):Prop:=∃v,e=.returned v∧w'.ownsRow B 9 1 v L.length (txs L)∧Below B w w'
def Sorts (B:Nat) (v:Value) (n:Nat) (L:List Tx) (w:World) (e:Ending) (w':World):Prop:=e=.returned (.tuple #[])∧w'.ownsRow B 9 1 v n (txs L)∧Below B w w'
theorem sortT_any (B n:Nat) (v:Value) (L:List Tx) (w:World) (h:w.ownsRow B 9 1 v n (txs L)) (hB:B≤w.heap.size) (hsm:n≤4294967296) :
  Calls Tryz.prog 143 #[v] w (Sorts B v n (L.mergeSort fun x y=>decide (x≤y)) w):=by
 have hl:=h.1
 rw [txs_len,Nat.mul_one] at hl
 rcases h.2 with ⟨rfl,hn⟩ | ⟨g,cap,cur,rfl,h1,h2,h3,h4,h5,h6⟩
 ·subst hn
  have hL:L=[]:=List.eq_nil_of_length_eq_zero hl
  subst hL
  have hcon:=Any.slices_Sort_string_none sortT none 0 w
  change Calls Tryz.prog 143 _ _ _ at hcon
  refine hcon.mono ?_
  rintro e w' ⟨rfl,rfl⟩
  rw [List.mergeSort_nil]
  exact ⟨rfl,h,Below.refl _ _⟩
 ·have hcon:=Any.slices_Sort_string sortT g 0 cap L w (holds_own h) (Array.getElem?_eq_some_iff.1 h2).1 (by omega)
  change Calls Tryz.prog 143 _ _ _ at hcon
  rw [hl] at hcon
  refine hcon.mono ?_
  rintro e w' ⟨rfl,k,os,rfl⟩
  obtain ⟨k1,k2⟩:=own_put h (L':=L.mergeSort fun x y=>decide (x≤y)) (by rw [List.length_mergeSort];exact hl) k os
  exact ⟨rfl,k1,(Below.refl _ _).grown k2 hB (fun j hj=>by injection hj with hj;omega)⟩
theorem compT_any (B n:Nat) (v:Value) (L:List Tx) (w:World) (h:w.ownsRow B 9 1 v n (txs L)) (hB:B≤w.heap.size) (hsm:n≤4294967296) :
  Calls Tryz.prog 144 #[v] w (OwnT B w (Lib.compact L)):=by
 have hl:=h.1
 rw [txs_len,Nat.mul_one] at hl
 rcases h.2 with ⟨rfl,hn⟩ | ⟨g,cap,cur,rfl,h1,h2,h3,h4,h5,h6⟩
 ·subst hn
  have hL:L=[]:=List.eq_nil_of_length_eq_zero hl
  subst hL
  have hcon:=Any.slices_Compact_string_empty compT none 0 w
  change Calls Tryz.prog 144 _ _ _ at hcon
  refine hcon.mono ?_
  rintro e w' ⟨rfl,rfl⟩
  exact ⟨_,rfl,h,Below.refl _ _⟩
 ·have hcon:=Any.slices_Compact_string compT g 0 cap L w (holds_own h) (by omega) (by omega)
  change Calls Tryz.prog 144 _ _ _ at hcon
  rw [hl] at hcon
  refine hcon.mono ?_
  rintro e w' ⟨rfl,k,rfl⟩
  have hcl:=compact_len L
  obtain ⟨k1,k2⟩:=own_put h (L':=Lib.compact L++List.replicate (n - (Lib.compact L).length) []) (by rw [List.length_append,List.length_replicate];omega) k #[]
  rw [grow_none] at k1 k2
  have k3:=own_pre k1 (k:=(Lib.compact L).length) (by omega)
  rw [List.take_left' rfl] at k3
  exact ⟨_,rfl,k3,(Below.refl _ _).grown k2 hB (fun j hj=>by injection hj with hj;omega)⟩
end Go.Proofs.YtegdbmbenjnacaaGreat.Sset
namespace Go.Proofs.YtegdbmbenjnacaaGreat.Sset
open Go.RowKit
open Utf (Rd Blk bys bys_len pts pts_len pts_get pts_one dec decode_any Pts Pt bad3 pieces dec_step wid_le wid rune fix vld vld_iff)
open Rset
set_option maxRecDepth 100000
theorem ill_key (r p d:Nat) (x:Tx) (b:Bool) (h:b=(decide (r=65533) && !decide ((x.drop p).take d=bad3))):Ending.returned (.bool b)=.returned (.bool (ill x ⟨r,p,d⟩)):=by rw [h];rfl
set_option maxHeartbeats 1000000 in
theorem ill_any (X:ByteArray) (x:Tx) (hX:X.toList=x) (r p d:Nat) (hp:p+d≤x.length) (hl:x.length≤1099511627770) (w:World) :
  Calls Tryz.prog 147 #[.string X,.agg #[.int .i32 r,.int .i64 p,.int .i64 d]] w (Ret w (.bool (ill x ⟨r,p,d⟩))):=by
 obtain ⟨Y,hY⟩:∃Y:ByteArray,Y=⟨((x.drop p).take d).toArray⟩:=⟨_,rfl⟩
 have hs:X.size=x.length:=size_of hX
 have e1:IntKind.i64.wrap ((p:Int)+d)=(p:Int)+d:=IntWalk.i64_in _ (by omega)
 have hsl:∀u:World,(Instr.slice 9 (.string X) (some (.int .i64 p)) (some (.int .i64 ((p:Int)+d))) none).run Tryz.prog u=.ok (.string Y) u:=fun u=>by
  rw [run_slice_string u _ X .i64 .i64 p (p+d) Tryz.underlying9 (by omega) (by omega) (by omega),hY,toList_mk hX,ByteArray.extract_mk]
  have h1:((p:Int)).toNat=p:=by omega
  have h2:((p:Int)+d).toNat - p=d:=by omega
  rw [h1,h2]
 have HY:=Lib.hid (show Y.toList=(x.drop p).take d by rw [hY,mk_toList])
 clear hs hp hl hX hY
 by_cases h:r=65533
 ·subst h
  go_enter Tryz.func147,Tryz.ntmps147
  go_wp2_with fail
  go_ret
  exact ⟨ill_key _ _ _ _ _ (by rw [HY.out];unfold bad3;by_cases h:List.take d (List.drop p x)=[239,191,189] <;> simp [h]),(Below.refl _ _).alloc (Nat.le_refl _) _⟩
 ·have hd:((r:Int) == 65533)=false:=by rw [beq_eq_false_iff_ne];omega
  have HD:=Lib.hid (decide_eq_false h)
  clear h
  go_enter Tryz.func147,Tryz.ntmps147
  go_wp2_with fail
  go_ret
  exact ⟨ill_key _ _ _ _ _ (by rw [HD.out];rfl),(Below.refl _ _).alloc (Nat.le_refl _) _⟩
set_option maxHeartbeats 1000000 in
theorem points1_any (X:ByteArray) (x:Tx) (hX:X.toList=x) (r p d gb:Nat) (hp:p+d≤x.length) (hl:x.length≤1099511627770) (w:World) (hc:w.cell? ⟨gb,0,none⟩=some (.string X)) (hg:gb < w.heap.size) :
  Calls Tryz.prog 146 #[.agg #[.int .i32 r,.int .i64 p,.int .i64 d],.pointer (some ⟨gb,0,none⟩)] w (Ret w (.bool (ill x ⟨r,p,d⟩))):=by
 have HI:=Lib.hid (ill_any X x hX r p d hp hl)
 clear hX hp hl
 generalize ill x ⟨r,p,d⟩=b at HI ⊢
 go_enter Tryz.func146,Tryz.ntmps146
 go_wp2_with fail
 refine (HI.out _).mono ?_
 rintro e w1 ⟨rfl,hb⟩
 have HB:=Lib.hid (((Below.refl w.heap.size w).alloc (Nat.le_refl _) (.cells #[.int .i32 r,.int .i64 p,.int .i64 d] 154)).trans (hb.mono (by simp)))
 clear hb
 go_wp2_with fail
 go_ret
 exact ⟨rfl,HB.out⟩
theorem dec_in (l:Tx):∀k,∀q∈dec false k l,k≤q.p∧q.p+q.w≤k+l.length:=by
 refine pieces (P:=fun l=>∀k,∀q∈dec false k l,k≤q.p∧q.p+q.w≤k+l.length) (fun k q h=>by simp [Utf.dec_nil] at h) (fun l hl ih k q h=>?_) l
 rw [dec_step false k hl (by simp)] at h
 have hw:=wid_le l
 rcases List.mem_cons.1 h with rfl | h
 ·exact ⟨Nat.le_refl _,by show k+wid l≤_;omega⟩
 ·have:=ih (k+wid l) q h
  rw [List.length_drop] at this
  omega
theorem any_take {l:List Pt} {x:Tx} {k:Nat} (hk:k < l.length):(l.take (k+1)).any (ill x)=((l.take k).any (ill x) || ill x l[k]):=by
 rw [List.take_succ_eq_append_getElem hk,List.any_append];simp
theorem any_of_get {l:List Pt} {x:Tx} {k:Nat} (hk:k < l.length) (h:ill x l[k]=true):l.any (ill x)=true:=by
 rw [List.any_eq_true];exact ⟨_,List.getElem_mem hk,h⟩
set_option maxHeartbeats 2000000 in
theorem pindex_any (A:Option Addr) (l:List Pt) (n c gb:Nat) (X:ByteArray) (x:Tx) (hX:X.toList=x) (hq:∀q∈l,q.p+q.w≤x.length) (hl:x.length≤1099511627770) (w:World) (ha:Rd w w.heap.size A (pts l)) (hn:l.length=n) (hn1:n≤1099511627776) (hc:w.cell? ⟨gb,0,none⟩=some (.string X)) (hg:gb < w.heap.size) :
  Calls Tryz.prog 163 #[.slice A n c,.func (.func 146) #[] #[.pointer (some ⟨gb,0,none⟩)]] w (fun e w'=>∃i:Int,e=.returned (.int .i64 i)∧decide (0≤i)=l.any (ill x)∧Below w.heap.size w w'):=by
 have eg:∀args w,(callFunc 146 args).run Tryz.prog w=.ok (.enter 146 args) w:=enters_of Tryz.func146 (by kernel_rfl) rfl
 have HA:=Lib.hid ha;have HN:=Lib.hid hn;have HC:=Lib.hid hc;have HG:=Lib.hid hg;have HX:=Lib.hid hX;have HQ:=Lib.hid hq;have HL:=Lib.hid hl
 clear ha hn hc hg hX hq hl
 go_enter Tryz.func163,Tryz.ntmps163
 go_wp2_with fail
 go_loopw [8] (fun i wr=>∃k:Nat,k≤n∧i=.int .i64 k∧Hid ((l.take k).any (ill x)=false)∧Hid (Below w.heap.size w wr)) (fun i _=>n - (intOf i).toNat)
 case atStart=>exact ⟨0,Nat.zero_le _,rfl,Lib.hid rfl,Lib.hid (Below.refl _ _)⟩
 case round =>
  obtain ⟨k,hk,rfl,HT,HW⟩:=hrel
  by_cases hlt:k < n
  ·have hkl:k < l.length:=by rw [HN.out];exact hlt
   have hR2:=HA.out.below HW.out
   obtain ⟨b,o,rfl,hb⟩:=hR2.form (by rw [pts_len];omega)
   obtain ⟨c1,c2,c3⟩:=hR2.pt hkl
   have HTK:=Lib.hid (any_take (x:=x) hkl)
   have HON:=Lib.hid (fun h=>any_of_get (x:=x) hkl h)
   have hqk:=HQ.out _ (List.getElem_mem hkl)
   generalize l[k]=q at *
   obtain ⟨r,p,d⟩:=q
   dsimp only at *
   have HF:=Lib.hid (points1_any X x HX.out r p d gb hqk HL.out wr ((HW.out.cell (p:=⟨gb,0,none⟩) HG.out).trans HC.out) (Nat.lt_of_lt_of_le HG.out HW.out.size))
   clear hR2 hkl hqk
   cases hb:ill x ⟨r,p,d⟩ with
   | true =>
    rw [hb] at HF
    have HE:=Lib.hid (HON.out hb)
    clear hb
    go_wp2_with (go_at_fn 146;refine HF.out.mono ?_;rintro e w1 ⟨rfl,hb1⟩;have HB1:=Lib.hid (HW.out.trans (hb1.mono HW.out.size));clear hb1)
    go_ret
    refine ⟨k,rfl,?_,HB1.out⟩
    rw [HE.out,decide_eq_true_eq];omega
   | false =>
    rw [hb] at HF
    have HE:=Lib.hid (show (l.take (k+1)).any (ill x)=false by rw [HTK.out,HT.out,hb];rfl)
    clear hb
    go_wp2_with (go_at_fn 146;refine HF.out.mono ?_;rintro e w1 ⟨rfl,hb1⟩;have HB1:=Lib.hid (HW.out.trans (hb1.mono HW.out.size));clear hb1)
    go_roundw
    case rel=>exact ⟨k+1,by omega,by go_num,HE,HB1⟩
    case measure=>simp [intOf];omega
  ·have HE:=Lib.hid (show l.any (ill x)=false by
    have:=HT.out
    rwa [List.take_of_length_le (by have:=HN.out;omega)] at this)
   go_wp2_with fail
   go_ret
   refine ⟨-1,rfl,?_,HW.out⟩
   rw [HE.out];rfl
theorem pcontains_any (A:Option Addr) (l:List Pt) (n c gb:Nat) (X:ByteArray) (x:Tx) (hX:X.toList=x) (hq:∀q∈l,q.p+q.w≤x.length) (hl:x.length≤1099511627770) (w:World) (ha:Rd w w.heap.size A (pts l)) (hn:l.length=n) (hn1:n≤1099511627776) (hc:w.cell? ⟨gb,0,none⟩=some (.string X)) (hg:gb < w.heap.size) :
  Calls Tryz.prog 145 #[.slice A n c,.func (.func 146) #[] #[.pointer (some ⟨gb,0,none⟩)]] w (Ret w (.bool (l.any (ill x)))):=by
 have HC:=Lib.hid (pindex_any A l n c gb X x hX hq hl w ha hn hn1 hc hg)
 clear ha hn hc hg hX hq hl
 go_enter Tryz.func145,Tryz.ntmps145
 go_wp2_with fail
 refine HC.out.mono ?_
 rintro e w1 ⟨i,rfl,hi,hb⟩
 have HI:=Lib.hid hi;have HB:=Lib.hid hb
 clear hi hb HC
 go_wp2_with fail
 go_ret
 exact ⟨ret_bool HI.out,HB.out⟩
def gpts (x:Tx):List Pt:=if good x then pnts x else []
theorem gpts_len (x:Tx):(gpts x).length≤x.length:=by
 unfold gpts
 split
 ·exact Utf.dec_len_le false x 0
 ·exact Nat.zero_le _
theorem gpts_ok (x:Tx):decide ((gpts x).length < 2)=!okT x:=by
 unfold gpts okT
 cases good x with
 | true=>rw [if_pos rfl,Bool.true_and,Bool.eq_iff_iff];simp
 | false=>rfl
set_option maxHeartbeats 2000000 in
theorem points_any (X:ByteArray) (x:Tx) (hX:X.toList=x) (hl:x.length≤1099511627770) (w:World) :
  Calls Tryz.prog 127 #[.string X] w (Pts w (gpts x)):=by
 obtain ⟨W0,hW0⟩:∃W0,W0=w.alloc (.cells #[.string X] 9):=⟨_,rfl⟩
 have hb0:Below w.heap.size w W0:=by rw [hW0];exact (Below.refl _ _).alloc (Nat.le_refl _) _
 have hbk:Blk W0 w.heap.size 9 [.string X]:=by rw [hW0];exact Blk.new w _ [.string X]
 have hc0:W0.cell? ⟨w.heap.size,0,none⟩=some (.string X):=hbk.cell 0
 obtain ⟨n,hn⟩:∃n,x.length=n:=⟨_,rfl⟩
 obtain ⟨g,C,W1,hcv,hr1,hb1,hC1,hC2⟩:=conv_str W0 X x hX n hn (by omega)
 obtain ⟨gb,hgb⟩:∃gb,gb=w.heap.size:=⟨_,rfl⟩
 rw [←hgb] at hbk hc0
 have hlt:=hbk.lt
 have HD:=Lib.hid (decode_any (some ⟨g,0,none⟩) x n C W1 hr1 hn hC1 hC2 (by omega))
 have HNN:=Lib.hid hn
 have HC0:=Lib.hid hc0;have HLT:=Lib.hid hlt;have HX:=Lib.hid hX;have HL:=Lib.hid hl
 have HB1:=Lib.hid hb1;have HB0:=Lib.hid hb0
 have HG:=Lib.hid (good_ill x)
 have HIN:=Lib.hid (show ∀q∈dec false 0 x,q.p+q.w≤x.length from fun q hq=>by have:=(dec_in x 0 q hq).2;omega)
 have hlen:=Utf.dec_len_le false x 0
 rw [hn] at hlen
 have HGP:=Lib.hid (show gpts x=if good x then dec false 0 x else [] from rfl)
 unfold pnts at HG
 generalize dec false 0 x=P at HD HG HIN hlen HGP
 have HW:=Lib.hid hW0;have HGB:=Lib.hid hgb
 clear hr1 hb1 hC1 hC2 hb0 hbk hX hl hlt hn hgb hW0
 go_enter Tryz.func127,Tryz.ntmps127
 go_wp2_with fail
 rw [←HW.out,←HGB.out]
 go_wp2_with fail
 rw [hcv]
 go_wp2_with fail
 refine HD.out.mono ?_
 rintro e w2 ⟨v,rfl,ho,hb⟩
 have HO:=Lib.hid ho
 obtain ⟨A2,c2,rfl,_,_,hr2⟩:=own_form ho
 have HB2:=Lib.hid (HB1.out.trans (hb.mono HB1.out.size))
 have HR2:=Lib.hid hr2
 have hlt2:gb < w2.heap.size:=Nat.lt_of_lt_of_le HLT.out HB2.out.size
 have hc2:=(HB2.out.cell (p:=⟨gb,0,none⟩) HLT.out).trans HC0.out
 have HCC:=Lib.hid (pcontains_any A2 P P.length c2 gb X x HX.out HIN.out HL.out w2 HR2.out rfl (by have:=HL.out;have:=HNN.out;omega) hc2 hlt2)
 clear ho hb hr2 hcv hc0
 go_wp2_with fail
 refine HCC.out.mono ?_
 rintro e w3 ⟨rfl,hb3⟩
 have HB3:=Lib.hid hb3
 have HBA:=Lib.hid (HB0.out.trans ((HB2.out.trans (hb3.mono HB2.out.size)).mono HB0.out.size))
 have HS:=Lib.hid (show w.heap.size≤W1.heap.size from Nat.le_trans HB0.out.size HB1.out.size)
 clear hb3 hc2
 cases hg:P.any (ill x) with
 | true =>
  have HE:=Lib.hid (show gpts x=[] by rw [HGP.out,HG.out,hg];rfl)
  clear hg
  go_wp2_with fail
  go_ret
  rw [HE.out]
  exact ⟨_,rfl,World.ownsRow_nil _ _ _ _,HBA.out⟩
 | false =>
  have HE:=Lib.hid (show gpts x=P by rw [HGP.out,HG.out,hg];rfl)
  clear hg
  go_wp2_with fail
  go_ret
  rw [HE.out]
  exact ⟨_,rfl,own_mono (own_below HO.out HB3.out) HS.out,HBA.out⟩
theorem norm1_any (X:ByteArray) (x:Tx) (hX:X.toList=x) (hl:x.length≤1099511627770) (w:World) :
  Calls Tryz.prog 126 #[.string X] w (Ret w (.bool (!okT x))):=by
 have HP:=Lib.hid (points_any X x hX hl w)
 have HK:=Lib.hid (gpts_ok x)
 have hlen:=gpts_len x
 clear hX
 generalize gpts x=P at *
 go_enter Tryz.func126,Tryz.ntmps126
 go_wp2_with fail
 refine HP.out.mono ?_
 rintro e w1 ⟨v,rfl,ho,hb⟩
 obtain ⟨A1,c1,rfl,_,_,_⟩:=own_form ho
 have HB:=Lib.hid hb
 clear ho hb
 go_wp2_with fail
 go_ret
 exact ⟨ret_bool (by rw [←HK.out];first | rfl | (rw [decide_eq_decide];omega)),HB.out⟩
theorem fst_key {t:Tx} (h:t≠[]):(dec false 0 (t.take 4))=⟨rune t,0,wid t⟩ :: dec false (wid t) ((t.take 4).drop (wid t)):=by
 have hne:t.take 4≠[]:=by cases t with | nil=>exact absurd rfl h | cons c r=>simp
 rw [dec_step false 0 hne (by simp),wid_take4,rune_take4,Nat.zero_add]
set_option maxHeartbeats 2000000 in
theorem first_any (X:ByteArray) (x:Tx) (hX:X.toList=x) (hne:x≠[]) (hl:x.length≤1099511627770) (w:World) :
  Calls Tryz.prog 71 #[.string X] w (Ret w (.tuple #[.int .i32 (fst x),.bool (two x)])):=by
 obtain ⟨y,hy⟩:∃y,y=x.take 4:=⟨_,rfl⟩
 obtain ⟨Y,hY⟩:∃Y:ByteArray,Y=⟨y.toArray⟩:=⟨_,rfl⟩
 obtain ⟨N,hN⟩:∃N,X.size=N:=⟨_,rfl⟩
 have hs:N=x.length:=by rw [←hN];exact size_of hX
 have hp:0 < x.length:=List.length_pos_iff.2 hne
 obtain ⟨m,hm⟩:∃m,y.length=m:=⟨_,rfl⟩
 have hm4:m=min 4 N:=by rw [←hm,hy,List.length_take,hs]
 have hext:X.extract 0 (min 4 N)=Y:=by
  rw [toList_mk hX,ByteArray.extract_mk,hY,hy,Nat.sub_zero,List.drop_zero]
  have h5:x.take (min 4 N)=x.take 4:=by rw [List.take_eq_take_iff];omega
  rw [h5]
 have HX:=Lib.hid (show X.extract 0 (min 4 (N:Int)).toNat=Y by rw [show (min 4 (N:Int)).toNat=min 4 N by omega];exact hext)
 obtain ⟨g,C,W1,hcv,hr1,hb1,hC1,hC2⟩:=conv_str w Y y (by rw [hY,mk_toList]) m hm (by omega)
 have HD:=Lib.hid (decode_any (some ⟨g,0,none⟩) y m C W1 hr1 hm hC1 hC2 (by omega))
 have HK:=Lib.hid (fst_key hne)
 rw [hy] at HD
 rw [HK.out] at HD
 have HT:=Lib.hid (show two x=decide (wid x < N) by rw [hs];rfl)
 have hw4:=Utf.wid_four x
 have HF:=Lib.hid (show fst x=(rune x:Int) from rfl)
 rw [HF.out,HT.out]
 generalize rune x=r at *
 generalize wid x=d at *
 generalize dec false d ((x.take 4).drop d)=P at *
 have HB1:=Lib.hid hb1
 have hm5:m≤4:=by omega
 have HN:=Lib.hid hN
 have HE:=Lib.hid hs
 have hbb:N≤1099511627770:=by omega
 clear hr1 hb1 hC1 hC2 hl hX hY hm hy hs hp hne hext hm4
 go_enter Tryz.func71,Tryz.ntmps71
 go_wp2_with fail
 rw [HX.out,hcv]
 go_wp2_with fail
 refine HD.out.mono ?_
 rintro e w2 ⟨v,rfl,ho,hb⟩
 obtain ⟨A2,c2,rfl,_,_,hr2⟩:=own_form ho
 obtain ⟨b,o,rfl,hbl⟩:=hr2.form (by rw [pts_len];simp)
 obtain ⟨p1,p2,p3⟩:=hr2.pt (k:=0) (by simp)
 simp only [List.getElem_cons_zero,Nat.zero_mul,Nat.add_zero] at p1 p2 p3
 have hq0:1≤((⟨r,0,d⟩:Pt) :: P).length:=by simp
 generalize ((⟨r,0,d⟩:Pt) :: P).length=q at *
 have HB2:=Lib.hid (HB1.out.trans (hb.mono HB1.out.size))
 clear ho hb hr2 hcv hm5 hw4 HD HK
 go_wp2_with fail
 go_quiet (fail)
 go_wp2_with fail
 go_ret2
 exact ⟨rfl,below_drewN (HB2.out.alloc HB2.out.size _) _⟩
end Go.Proofs.YtegdbmbenjnacaaGreat.Sset
namespace Go.Proofs.YtegdbmbenjnacaaGreat.Sset
open Go.RowKit
open Utf (Rd Blk wpList_append_rd own_ne)
open Rset
set_option maxRecDepth 100000
def RoomT (w:World) (e:Ending) (w':World):Prop:=∃v,e=.returned v∧w'.ownsRow w.heap.size 9 1 v 0 []∧Below w.heap.size w w'
set_option maxHeartbeats 1000000 in
theorem growT_some (n:Nat) (w:World) (h1:1≤n) (h2:n≤4294967296):Calls Tryz.prog 160 #[.slice none 0 0,.int .i64 n] w (RoomT w):=by
 obtain ⟨i0,hi,hz0,hz1,hz2⟩:=info_parts infoStr
 have hrun:=fun (u:World) (ty:TypeId)=>Lib.run_append_nil_zeros (P:=Tryz.prog) u 23 3 ty 9 i0 (.string ⟨#[]⟩) .i64 .i64 Tryz.underlying23 Tryz.underlying3 hi hz0 n h1 (by omega) (by omega) (by rw [hz2];omega)
 have HR:=Lib.hid hrun
 clear hrun
 have hp:(0:Int) < (n:Int):=by omega
 have hge:=grownCap_ge w n 0 9
 have hle:=grownCap_le_maxLen w n 0 9 (by unfold maxLen;omega)
 have hsz:(Builtin.zeroCells (Value.cells (.string ⟨#[]⟩)) n++Builtin.zeroCells (Value.cells (.string ⟨#[]⟩)) (grownCap w n 0 9 - n)).size=grownCap w n 0 9*1:=by
  rw [Array.size_append,size_zeroCells,size_zeroCells]
  have:(Value.cells (.string ⟨#[]⟩)).size=1:=rfl
  rw [this];omega
 obtain ⟨C,hC⟩:∃C,C=grownCap w n 0 9:=⟨_,rfl⟩
 obtain ⟨Z,hZ⟩:∃Z,Z=Builtin.zeroCells (Value.cells (.string ⟨#[]⟩)) n++Builtin.zeroCells (Value.cells (.string ⟨#[]⟩)) (grownCap w n 0 9 - n):=⟨_,rfl⟩
 have HR0:Hid (∀ty:TypeId,(Builtin.append_ #[23,3] ty #[.slice none 0 0,.int .i64 n]).run Tryz.prog w=.ok (.slice (some ⟨w.heap.size,0,none⟩) n C) (w.drew.alloc (.cells Z 9))):=fun ty=>by rw [HR.out w ty,hC,hZ]
 rw [←hZ,←hC] at hsz
 rw [←hC] at hge hle
 have HSZ:=Lib.hid hsz
 have hown:(w.drew.alloc (.cells Z 9)).ownsRow w.heap.size 9 1 (.slice (some ⟨w.heap.size,0,none⟩) 0 C) 0 []:=World.ownsRow_made w.drew Z C (Nat.le_refl _) hle hsz
 have HO:=Lib.hid hown
 unfold maxLen at hle
 clear hsz hC hZ HR hown
 go_enter Tryz.func160,Tryz.ntmps160
 go_wp2_with (first
  | (at_builtin;refine Lib.wpList_append_run _ rfl (.tmp 20) (.tmp 21) _ _ rfl _ _ rfl rfl _ _ (HR0.out _) ?_))
 all_goals go_ret
 all_goals exact ⟨_,rfl,HO.out,((Below.refl _ _).drew).alloc (Nat.le_refl _) _⟩
theorem growT_none (w:World):Calls Tryz.prog 160 #[.slice none 0 0,.int .i64 0] w (RoomT w):=by
 go_enter Tryz.func160,Tryz.ntmps160
 go_wp2_with fail
 go_ret
 exact ⟨_,rfl,World.ownsRow_nil _ _ _ _,Below.refl _ _⟩
theorem growT_any (n:Nat) (w:World) (h2:n≤4294967296):Calls Tryz.prog 160 #[.slice none 0 0,.int .i64 n] w (RoomT w):=by
 by_cases h:n=0
 ·subst h;exact growT_none w
 ·exact growT_some n w (by omega) h2
theorem ownT_of {B n:Nat} {w w':World} {v:Value} {l:List Tx} {xs:List Value} (hn:n=l.length) (hx:xs=txs l) (hown:w'.ownsRow B 9 1 v n xs) (hb:Below B w w'):OwnT B w l (.returned v) w':=by
 subst hn hx
 exact ⟨v,rfl,hown,hb⟩
set_option maxHeartbeats 2000000 in
theorem concat1_any (b o n1 c1:Nat) (A1:Option Addr) (l1:List Tx) (w:World) (hb:b < w.heap.size) (h1:w.cell? ⟨b,o,none⟩=some (.slice A1 n1 c1))
  (r1:Rd w w.heap.size A1 (txs l1)) (e1:l1.length=n1) (b2:n1≤2147483648) :
  Calls Tryz.prog 142 #[.slice (some ⟨b,o,none⟩) 1 1] w (OwnT w.heap.size w l1):=by
 obtain ⟨i0,hi,hz0,hz1,hz2⟩:=info_parts infoStr
 have E1:=Lib.hid e1
 clear e1
 have HG:=Lib.hid (growT_any n1 w (by omega))
 have n1':(0:Int)≤(n1:Int):=by omega
 go_enter Tryz.func142,Tryz.ntmps142
 go_wp2_with fail
 refine wp_loop_rounds 2 ?_
 rw [rounds_succ]
 go_wp2_with fail
 rw [rounds_succ]
 go_wp2_with fail
 refine HG.out.mono ?_
 rintro e w1 ⟨v1,rfl,hown0,hb1⟩
 have g1:w1.cell? ⟨b,o,none⟩=some (.slice A1 n1 c1):=(hb1.cell (p:=⟨b,o,none⟩) hb).trans h1
 have q1:=r1.below hb1
 have hs1:=hb1.size
 have k1:(txs l1).length=n1*1:=by rw [txs_len,E1.out,Nat.mul_one]
 have K1:=Lib.hid k1
 clear h1 k1
 go_wp2_with fail
 refine wp_loop_rounds 2 ?_
 rw [rounds_succ]
 go_wp2_with (first
  | (at_builtin;refine wpList_append_rd _ rfl (.tmp 31) (.tmp 32) _ rfl w.heap.size 9 i0 _ 1 16 Tryz.underlying23 hi hz0 hz1 hz2 rfl (by decide) _ 0 [] rfl hown0 w.heap.size A1 n1 c1 (txs l1) rfl K1.out q1 (txs_one _) (by unfold maxLen;omega) (by omega) hs1 ?_;intro v2 w2 hown2 hgr2 hat2;have hb2:=hb1.grown hgr2 hs1 (fun g hg=>(hown0.lt g hg).1)))
 rw [rounds_succ]
 go_wp2
 go_ret
 exact ownT_of (n:=0+n1) (by rw [E1.out];omega) (by rw [List.nil_append]) hown2 hb2
theorem rising_of (v:Value) (l:List Tx) (w:World) (hl:l.length≤4294967296) (hc:Calls Tryz.prog 142 #[v] w (OwnT w.heap.size w l)) :
  Calls Tryz.prog 125 #[v] w (OwnT w.heap.size w (rise l)):=by
 have HC:=Lib.hid hc;have HL:=Lib.hid hl
 have HE:=Lib.hid (show rise l=Lib.compact (l.mergeSort fun x y=>decide (x≤y)) from rfl)
 rw [HE.out]
 clear hc hl
 go_enter Tryz.func125,Tryz.ntmps125
 go_wp2_with fail
 refine HC.out.mono ?_
 rintro e w1 ⟨v1,rfl,ho1,hb1⟩
 have HB1:=Lib.hid hb1
 have HS:=Lib.hid (sortT_any w.heap.size l.length v1 l w1 ho1 hb1.size HL.out)
 clear ho1 hb1 HC
 go_wp2_with fail
 refine HS.out.mono ?_
 rintro e w2 ⟨rfl,ho2,hb2⟩
 have HB2:=Lib.hid (HB1.out.trans hb2)
 have HC:=Lib.hid (compT_any w.heap.size l.length v1 _ w2 ho2 HB2.out.size HL.out)
 clear ho2 hb2 HS
 go_wp2_with fail
 refine HC.out.mono ?_
 rintro e w3 ⟨v3,rfl,ho3,hb3⟩
 have HB3:=Lib.hid (HB2.out.trans hb3)
 have HO:=Lib.hid ho3
 clear ho3 hb3 HC
 go_wp2_with fail
 go_ret
 exact ⟨_,rfl,HO.out,HB3.out⟩
theorem rising1_any (b o n1 c1:Nat) (A1:Option Addr) (l1:List Tx) (w:World) (hb:b < w.heap.size) (h1:w.cell? ⟨b,o,none⟩=some (.slice A1 n1 c1)) (r1:ArgT w A1 n1 l1) :
  Calls Tryz.prog 125 #[.slice (some ⟨b,o,none⟩) 1 1] w (OwnT w.heap.size w (rise l1)) :=
 rising_of _ _ w (by have:=r1.sm;have:=r1.len;omega) (concat1_any b o n1 c1 A1 l1 w hb h1 r1.rd r1.len (by have:=r1.sm;omega))
end Go.Proofs.YtegdbmbenjnacaaGreat.Sset
namespace Go.Proofs.YtegdbmbenjnacaaGreat.Sset
open Go.RowKit
open Utf (Rd Blk wpList_append_rd own_ne)
open Rset
set_option maxRecDepth 100000
def At (L:List Tx) (i:Int):Prop:=(i=-1∧∀x∈L,okT x=true)∨∃k:Nat,i=k∧k < L.length∧(∀x∈L.take k,okT x=true)∧∀h:k < L.length,okT L[k]=false
set_option maxHeartbeats 2000000 in
theorem iT_any (A:Option Addr) (L:List Tx) (n c:Nat) (w:World) (ha:Rd w w.heap.size A (txs L)) (hn:L.length=n) (hS:Short L) (hn1:n≤4294967296) :
  Calls Tryz.prog 141 #[.slice A n c,.func (.func 126) #[] #[]] w (fun e w'=>∃i:Int,e=.returned (.int .i64 i)∧At L i∧Below w.heap.size w w'):=by
 have eg:∀args w,(callFunc 126 args).run Tryz.prog w=.ok (.enter 126 args) w:=enters_of Tryz.func126 (by kernel_rfl) rfl
 have HA:=Lib.hid ha;have HN:=Lib.hid hn;have HS:=Lib.hid hS
 clear ha hn hS
 go_enter Tryz.func141,Tryz.ntmps141
 go_wp2_with fail
 go_loopw [8] (fun i wr=>∃k:Nat,k≤n∧i=.int .i64 k∧Hid (∀x∈L.take k,okT x=true)∧Hid (Below w.heap.size w wr)) (fun i _=>n - (intOf i).toNat)
 case atStart=>exact ⟨0,Nat.zero_le _,rfl,Lib.hid (fun x h=>by simp at h),Lib.hid (Below.refl _ _)⟩
 case round =>
  obtain ⟨k,hk,rfl,HT,HW⟩:=hrel
  by_cases hlt:k < n
  ·have hkl:k < L.length:=by rw [HN.out];exact hlt
   have hR2:=HA.out.below HW.out
   obtain ⟨b,o,rfl,hb⟩:=rd_form_tx hR2 (by omega)
   have c1:=rd_tx hR2 hkl
   have HTK:=Lib.hid (show okT L[k]=true→∀x∈L.take (k+1),okT x=true from fun h x hx=>by
    rw [List.take_succ_eq_append_getElem hkl] at hx
    rcases List.mem_append.1 hx with hx | hx
    ·exact HT.out x hx
    ·rw [List.mem_singleton.1 hx];exact h)
   have HAT:=Lib.hid (show okT L[k]=false→At L (k:Int) from fun h=>.inr ⟨k,rfl,hkl,HT.out,fun _=>h⟩)
   obtain ⟨X,hX⟩:∃X:ByteArray,X=⟨L[k].toArray⟩:=⟨_,rfl⟩
   have hXl:X.toList=L[k]:=by rw [hX,mk_toList]
   have c2:wr.cell? ⟨b,o+k,none⟩=some (.string X):=by rw [c1,hX]
   have HF:=Lib.hid (norm1_any X L[k] hXl (by have:=HS.out _ (List.getElem_mem hkl);omega) wr)
   clear c1 hR2 hX hXl
   generalize L[k]=x at *
   clear hkl
   cases hb:okT x with
   | false =>
    rw [hb] at HF
    have HE:=Lib.hid (HAT.out hb)
    clear hb
    go_wp2_with (go_at_fn 126;refine HF.out.mono ?_;rintro e w1 ⟨rfl,hb1⟩;have HB1:=Lib.hid (HW.out.trans (hb1.mono HW.out.size));clear hb1)
    go_ret
    exact ⟨k,rfl,HE.out,HB1.out⟩
   | true =>
    rw [hb] at HF
    have HE:=Lib.hid (HTK.out hb)
    clear hb
    go_wp2_with (go_at_fn 126;refine HF.out.mono ?_;rintro e w1 ⟨rfl,hb1⟩;have HB1:=Lib.hid (HW.out.trans (hb1.mono HW.out.size));clear hb1)
    go_roundw
    case rel=>exact ⟨k+1,by omega,by go_num,HE,HB1⟩
    case measure=>simp [intOf];omega
  ·have HE:=Lib.hid (show At L (-1) from .inl ⟨rfl,fun x hx=>by
    have:=HT.out
    rw [List.take_of_length_le (by have:=HN.out;omega)] at this
    exact this x hx⟩)
   go_wp2_with fail
   go_ret
   exact ⟨-1,rfl,HE.out,HW.out⟩
theorem own_cells (B g n cap:Nat):∀(m o:Nat) (w:World) (L:List Tx),w.ownsRow B 9 1 (.slice (some ⟨g,0,none⟩) n cap) n (txs L) →
  ∃L':List Tx,L'.take o=L.take o∧L'.length=L.length∧(w.setCells g o (List.replicate m (encStr []))).ownsRow B 9 1 (.slice (some ⟨g,0,none⟩) n cap) n (txs L')∧w.grownBy (w.setCells g o (List.replicate m (encStr []))) (some g):=by
 intro m
 induction m with
 | zero=>intro o w L h;exact ⟨L,rfl,rfl,h,World.grownBy.refl w _⟩
 | succ m ih =>
  intro o w L h
  obtain ⟨o1,g1⟩:=h.stored o (encStr [])
  rw [txs_set] at o1
  obtain ⟨L',t1,t2,t3,t4⟩:=ih (o+1) _ _ o1
  refine ⟨L',?_,by rw [t2,List.length_set],t3,g1.trans t4⟩
  have e1:L'.take o=(L'.take (o+1)).take o:=by rw [List.take_take];congr 1;omega
  rw [e1,t1,List.take_take,Nat.min_eq_left (by omega),List.take_set_of_le (Nat.le_refl o)]
structure DI (w wr:World) (B g n cap:Nat) (L L':List Tx) (i j:Nat):Prop where
 own:wr.ownsRow B 9 1 (.slice (some ⟨g,0,none⟩) n cap) n (txs L')
 len:L'.length=n
 head:L'.take i=(L.take j).filter okT
 tail:L'.drop j=L.drop j
 lt:i < j
 bel:Below B w wr
 big:B≤wr.heap.size
theorem DI.next {w wr w':World} {B g n cap:Nat} {L L':List Tx} {i j:Nat} (h:DI w wr B g n cap L L' i j) (hb:Below wr.heap.size wr w'):DI w w' B g n cap L L' i j :=
 ⟨own_below h.own hb,h.len,h.head,h.tail,h.lt,h.bel.trans (hb.mono h.big),Nat.le_trans h.big hb.size⟩
theorem DI.get {w wr:World} {B g n cap:Nat} {L L':List Tx} {i j:Nat} (h:DI w wr B g n cap L L' i j) (hL:L.length=n) (hj:j < n):L'[j]'(by rw [h.len];exact hj)=L[j]:=by
 have h1:j < L'.length:=by rw [h.len];exact hj
 have h2:j < L.length:=by omega
 have:=h.tail
 rw [List.drop_eq_getElem_cons h1,List.drop_eq_getElem_cons h2] at this
 exact (List.cons.inj this).1
theorem DI.skip {w wr:World} {B g n cap:Nat} {L L':List Tx} {i j:Nat} (h:DI w wr B g n cap L L' i j) (hL:L.length=n) (hj:j < n) (ho:okT L[j]=false):DI w wr B g n cap L L' i (j+1) :=
 ⟨h.own,h.len,by rw [List.take_succ_eq_append_getElem (by omega),List.filter_append,List.filter_cons,if_neg (by rw [ho];exact Bool.false_ne_true),List.filter_nil,List.append_nil];exact h.head,
  by rw [←List.drop_drop,←List.drop_drop,h.tail],by have:=h.lt;omega,h.bel,h.big⟩
theorem DI.keep {w wr:World} {B g n cap:Nat} {L L':List Tx} {i j:Nat} (h:DI w wr B g n cap L L' i j) (hL:L.length=n) (hj:j < n) (ho:okT L[j]=true) (hg:B≤g):DI w (wr.setCell ⟨g,i,none⟩ (encStr L[j])) B g n cap L (L'.set i L[j]) (i+1) (j+1):=by
 obtain ⟨o1,g1⟩:=h.own.stored i (encStr L[j])
 rw [txs_set] at o1
 have hlt:=h.lt
 refine ⟨o1,by rw [List.length_set];exact h.len,?_,?_,by omega,h.bel.grown g1 h.big (fun k hk=>by injection hk with hk;omega),Nat.le_trans h.big g1.size⟩
 ·have hi:i < (L'.set i L[j]).length:=by rw [List.length_set,h.len];omega
  rw [List.take_succ_eq_append_getElem hi,List.take_set_of_le (Nat.le_refl i),h.head,List.getElem_set_self,List.take_succ_eq_append_getElem (show j < L.length by omega),List.filter_append,List.filter_cons,if_pos ho,List.filter_nil]
 ·rw [List.drop_set_of_lt (by omega),←List.drop_drop,←List.drop_drop,h.tail]
set_option maxHeartbeats 4000000 in
theorem del_any (B n:Nat) (v:Value) (L:List Tx) (w:World) (h:w.ownsRow B 9 1 v n (txs L)) (hB:B≤w.heap.size) (hS:Short L) (hn1:n≤4294967296) :
  Calls Tryz.prog 124 #[v,.func (.func 126) #[] #[]] w (OwnT B w (L.filter okT)):=by
 have eg:∀args w,(callFunc 126 args).run Tryz.prog w=.ok (.enter 126 args) w:=enters_of Tryz.func126 (by kernel_rfl) rfl
 have hl:L.length=n:=by have:=h.1;rw [txs_len,Nat.mul_one] at this;exact this
 obtain ⟨A,c,rfl,hc1,hc2,hr⟩:=own_form h
 have HI:=Lib.hid (iT_any A L n c w hr hl hS hn1)
 have HO:=Lib.hid h;have HL:=Lib.hid hl;have HS:=Lib.hid hS;have HB:=Lib.hid hB
 clear h hl hS hB hr
 go_enter Tryz.func124,Tryz.ntmps124
 go_wp2_with fail
 refine HI.out.mono ?_
 rintro e w1 ⟨i,rfl,hat,hb1⟩
 have HB1:=Lib.hid hb1
 clear hb1 HI
 rcases hat with ⟨rfl,hall⟩ | ⟨k,rfl,hk,hbef,hko⟩
 ·have HE:=Lib.hid (show L.filter okT=L from List.filter_eq_self.2 hall)
  clear hall
  go_wp2_with fail
  go_ret
  rw [HE.out]
  refine ⟨_,rfl,?_,HB1.out.mono HB.out⟩
  rw [HL.out]
  exact own_below HO.out HB1.out
 ·rw [HL.out] at hk
  have hkne:((k:Int) == -1)=false:=by rw [beq_eq_false_iff_ne];omega
  obtain ⟨g,cap,hv,hgb⟩:∃g cap,Value.slice A n c=.slice (some ⟨g,0,none⟩) n cap∧B≤g:=by
   rcases HO.out.2 with ⟨h1,h2⟩ | ⟨g,cap,cur,hv,h1,_⟩
   ·omega
   ·exact ⟨g,cap,hv,h1⟩
  injection hv with hv1 hv2 hv3
  subst hv1 hv3
  have HST:=Lib.hid (show DI w w1 B g n c L L k (k+1) from ⟨own_below HO.out HB1.out,HL.out,by
    rw [List.take_succ_eq_append_getElem (by rw [HL.out];exact hk),List.filter_append,List.filter_cons,if_neg (by rw [hko];exact Bool.false_ne_true),List.filter_nil,List.append_nil,List.filter_eq_self.2 hbef],rfl,by omega,HB1.out.mono HB.out,Nat.le_trans HB.out HB1.out.size⟩)
  have HGB:=Lib.hid hgb
  clear hbef hko hgb
  go_wp2_with fail
  go_loopw [5,6] (fun s5 s6 wr=>∃(i j:Nat) (L':List Tx),s5=.int .i64 i∧s6=.int .i64 j∧j≤n∧i < j∧Hid (DI w wr B g n c L L' i j)) (fun _ s6 _=>n - (intOf s6).toNat)
  case atStart=>exact ⟨k,k+1,L,rfl,by go_num,by omega,by omega,HST⟩
  case round =>
   obtain ⟨i,j,L',rfl,rfl,hj,hij,HD⟩:=hrel
   by_cases hlt:j < n
   ·have hjl:j < L.length:=by rw [HL.out];exact hlt
    have hcj:wr.cell? ⟨g,j,none⟩=some (encStr L[j]):=by
     rw [HD.out.own.cellAt j (by omega),txs_get (by rw [HD.out.len];exact hlt),HD.out.get HL.out hlt]
    obtain ⟨X,hX⟩:∃X:ByteArray,X=⟨L[j].toArray⟩:=⟨_,rfl⟩
    have hXl:X.toList=L[j]:=by rw [hX,mk_toList]
    have c2:wr.cell? ⟨g,j,none⟩=some (.string X):=by rw [hcj,hX]
    have HF:=Lib.hid (norm1_any X L[j] hXl (by have:=HS.out _ (List.getElem_mem hjl);omega) wr)
    have HX:=Lib.hid hX
    clear hcj hX hXl
    cases hb:okT L[j] with
    | false =>
     rw [hb] at HF
     have HD2:=Lib.hid (HD.out.skip HL.out hlt hb)
     clear hb hjl HX
     go_wp2_with (go_at_fn 126;refine HF.out.mono ?_;rintro e w2 ⟨rfl,hb2⟩;have HD3:=Lib.hid (HD2.out.next hb2);clear hb2)
     go_roundw
     case rel=>exact ⟨i,j+1,L',rfl,by go_num,by omega,by omega,HD3⟩
     case measure=>simp [intOf];omega
    | true =>
     rw [hb] at HF
     have HK:=Lib.hid (show ∀w2,Below wr.heap.size wr w2→DI w (w2.setCell ⟨g,i,none⟩ (.string X)) B g n c L (L'.set i L[j]) (i+1) (j+1) from fun w2 h2=>by
      rw [HX.out];exact (HD.out.next h2).keep HL.out hlt hb HGB.out)
     have HC:=Lib.hid (show ∀w2,Below wr.heap.size wr w2→(∃u,w2.cell? ⟨g,i,none⟩=some u)∧w2.frozen? ⟨g,i,none⟩=false from fun w2 h2=>by
      have hD:=HD.out.next h2
      exact ⟨⟨_,by rw [hD.own.cellAt i (by omega),txs_get (by rw [hD.len];omega)]⟩,hD.own.frozenAt i⟩)
     generalize L'.set i L[j]=L2 at HK
     clear hb hjl HX
     go_wp2_with (go_at_fn 126;refine HF.out.mono ?_;rintro e w2 ⟨rfl,hb2⟩;have HD3:=Lib.hid (HK.out w2 hb2);obtain ⟨⟨u,hu⟩,hfr⟩:=HC.out w2 hb2;clear hb2)
     go_roundw
     case rel=>exact ⟨i+1,j+1,L2,by go_num,by go_num,by omega,by omega,HD3⟩
     case measure=>simp [intOf];omega
   ·have hjn:j=n:=by omega
    obtain ⟨v9⟩:∃_:Nat,True:=⟨0,trivial⟩
    have hcl:∀ty,(Builtin.clear_ #[23] ty #[.slice (some ⟨g,i,none⟩) (n - i) (c - i)]).run Tryz.prog wr=.ok (.tuple #[]) (wr.setCells g i (List.replicate (n - i) (encStr []))) :=
     fun ty=>Lib.run_clear_slice wr _ _ ty _ Tryz.underlying23 Tryz.zeroValue9 rfl rfl g i _ _ (by omega) (fun t ht=>by rw [HD.out.own.cellAt (i+t) (by omega),txs_get (by rw [HD.out.len];omega)];rfl) (fun t ht=>HD.out.own.frozenAt _)
    obtain ⟨L2,t1,t2,t3,t4⟩:=own_cells B g n c (n - i) i wr L' HD.out.own
    have t5:=own_pre t3 (k:=i) (by omega)
    rw [t1,HD.out.head,List.take_of_length_le (by have:=HL.out;omega)] at t5
    have hlen:(L.filter okT).length=i:=by
     rw [←(show L.take j=L from List.take_of_length_le (by have:=HL.out;omega)),←HD.out.head,List.length_take,HD.out.len];omega
    have HLEN:=Lib.hid hlen
    have HT5:=Lib.hid t5
    have HB9:=Lib.hid (HD.out.bel.grown t4 HD.out.big (fun k hk=>by injection hk with hk;have:=HGB.out;omega))
    clear t1 t2 t3 t4 t5 hlen hjn
    go_wp2_with fail
    go_ret
    refine ⟨_,rfl,?_,HB9.out⟩
    rw [HLEN.out]
    exact HT5.out
end Go.Proofs.YtegdbmbenjnacaaGreat.Sset
namespace Go.Proofs.YtegdbmbenjnacaaGreat.Sset
open Go.RowKit
open Utf (Rd Blk bys bys_len nums nums_len wpList_append_rd own_ne)
open Rset
set_option maxRecDepth 100000
theorem txs_get' {l:List Tx} {k:Nat} {y:Tx} (h:l[k]? = some y):(txs l)[k]? = some (encStr y):=by
 unfold txs;rw [List.getElem?_map,h];rfl
theorem txs_getD {l:List Tx} {k:Nat} (h:k < l.length):(txs l)[k]? = some (encStr l[k]):=txs_get h
set_option maxHeartbeats 8000000 in
theorem rput_any (B n:Nat) (v:Value) (l:List Tx) (X:ByteArray) (x:Tx) (hX:X.toList=x) (w:World) (h:w.ownsRow B 9 1 v n (txs l)) (hB:B≤w.heap.size) (hU:Up l) (hn:n≤1073741824) :
  Calls Tryz.prog 81 #[v,.string X] w (OwnT B w (rise (l++[x]))):=by
 obtain ⟨i0,hi,hz0,hz1,hz2⟩:=info_parts infoStr
 have hl:l.length=n:=by have:=h.1;rw [txs_len,Nat.mul_one] at this;exact this
 obtain ⟨A,c,rfl,hc1,hc2,hr⟩:=own_form h
 have HO:=Lib.hid h;have HL:=Lib.hid hl;have HU:=Lib.hid hU;have HB:=Lib.hid hB;have HX:=Lib.hid hX
 have HR0:=Lib.hid hr
 clear h hl hU hB hX hr
 go_enter Tryz.func81,Tryz.ntmps81
 go_wp2_with fail
 go_loopw [5] (fun i wr=>∃k:Nat,k≤n∧i=.int .i64 k∧Hid (∀y∈l.take k,y < x)∧w=wr) (fun i _=>n - (intOf i).toNat)
 case atStart=>exact ⟨0,Nat.zero_le _,rfl,Lib.hid (fun y hy=>by simp at hy),rfl⟩
 case round =>
  obtain ⟨k,hk,rfl,H1,rfl⟩:=hrel
  by_cases hlt:k < n
  ·have hkl:k < l.length:=by rw [HL.out];exact hlt
   obtain ⟨b,o,rfl,_⟩:=rd_form_tx HR0.out (by omega)
   have c0:=rd_tx HR0.out hkl
   obtain ⟨Y,hY⟩:∃Y:ByteArray,Y=⟨l[k].toArray⟩:=⟨_,rfl⟩
   have cY:w.cell? ⟨b,o+k,none⟩=some (.string Y):=by rw [c0,hY]
   have hYl:Y.toList=l[k]:=by rw [hY,mk_toList]
   by_cases hlx:l[k] < x
   ·have he1:Op.bytesLess Y.toList X.toList=true:=by rw [bytesLess_eq,hYl,HX.out];exact decide_eq_true hlx
    have HN:=Lib.hid (show ∀y∈l.take (k+1),y < x from by
     rw [List.take_succ_eq_append_getElem hkl]
     intro y hy
     rcases List.mem_append.1 hy with hy | hy
     ·exact H1.out y hy
     ·rw [List.mem_singleton.1 hy];exact hlx)
    clear c0 hY hYl hlx hkl
    go_wp2_with fail
    go_roundw
    case rel=>exact ⟨k+1,by omega,by go_num,HN,by trivial⟩
    case measure=>simp [intOf];omega
   ·have he1:Op.bytesLess Y.toList X.toList=false:=by rw [bytesLess_eq,hYl,HX.out];exact decide_eq_false hlx
    by_cases hex:l[k]=x
    ·have he2:(Y.toList == X.toList)=true:=by rw [hYl,HX.out,hex];simp
     have HRES:=Lib.hid (put_there HU.out (show x∈l from hex ▸ List.getElem_mem hkl))
     clear c0 hY hYl hlx hex hkl
     go_wp2_with fail
     go_ret
     refine ⟨_,rfl,?_,Below.refl _ _⟩
     rw [←HRES.out,HL.out]
     exact HO.out
    ·have he2:(Y.toList == X.toList)=false:=by rw [hYl,HX.out,beq_eq_false_iff_ne];exact hex
     have H2:=Lib.hid (drop_gt HU.out hkl (gt_of hlx hex))
     clear c0 hY hYl hlx hex hkl
     have HRES:=Lib.hid (put_at HU.out H1.out H2.out)
     go_wp2_with (at_builtin;refine wpList_append_rd _ rfl (.tmp 34) (.tmp 36) _ rfl B 9 i0 _ 1 16 Tryz.underlying23 hi hz0 hz1 hz2 rfl (by decide) _ n (txs l) rfl (HO.out.alloc _) _ (some ⟨w.heap.size,0,none⟩) 1 1 [.string X] rfl rfl (rd_new _ _ [.string X] _ (by simp)) (by simp [Value.oneCell']) (by unfold maxLen;omega) (by omega) (by have:=HB.out;simp;omega) ?_;intro v1 w1 hown1 hgr1 _;have HB1:=Lib.hid (show Below B w w1 from ((Below.refl _ _).alloc HB.out _).grown hgr1 (by have:=HB.out;simp;omega) (fun j hj=>(HO.out.lt j hj).1));have HO1:=Lib.hid hown1;obtain ⟨g,c1,hv,hgb⟩:∃g cap,v1=.slice (some ⟨g,0,none⟩) (n+1) cap∧B≤g:=(by
      rcases hown1.2 with ⟨h1,h2⟩ | ⟨g,cap,cur,hv,h1,_⟩
      ·omega
      ·exact ⟨g,cap,hv,h1⟩);subst hv;clear hown1 hgr1)
     have HGB:=Lib.hid hgb
     have HST:=Lib.hid (show w1.ownsRow B 9 1 (.slice (some ⟨g,0,none⟩) (n+1) c1) (n+1) (txs (l.take n++x :: l.drop n)) from by
      have e:l.take n++x :: l.drop n=l++[x]:=by rw [←HL.out];exact ins_end l x
      rw [e,txs_append]
      have e2:txs [x]=[.string X]:=by rw [toList_mk HX.out];rfl
      rw [e2];exact HO1.out)
     clear hgb HO1
     go_wp2_with fail
     go_loopw [6] (fun i wr=>∃q:Nat,k≤q∧q≤n∧i=.int .i64 q∧Hid (wr.ownsRow B 9 1 (.slice (some ⟨g,0,none⟩) (n+1) c1) (n+1) (txs (l.take q++x :: l.drop q)))∧Hid (Below B w wr)) (fun i _=>(intOf i).toNat)
     case atStart=>exact ⟨n,by omega,Nat.le_refl _,by go_num,HST,HB1⟩
     case round =>
      obtain ⟨q,hq1,hq2,rfl,HR,HBR⟩:=hrel
      by_cases hqk:k < q
      ·obtain ⟨p,rfl⟩:∃p,q=p+1:=⟨q - 1,by omega⟩
       have hpl:p < l.length:=by rw [HL.out];omega
       have hc0:wr.cell? ⟨g,p,none⟩=some (encStr l[p]):=by
        rw [HR.out.cellAt p (by omega),txs_get' (ins_get hpl x)]
       obtain ⟨u1,hc1⟩:∃u,wr.cell? ⟨g,p+1,none⟩=some u:=⟨_,by rw [HR.out.cellAt (p+1) (by omega),txs_getD (show p+1 < (l.take (p+1)++x :: l.drop (p+1)).length by rw [ins_len];omega)]⟩
       have hf1:=HR.out.frozenAt (p+1)
       obtain ⟨o1,g1⟩:=HR.out.stored (p+1) (encStr l[p])
       obtain ⟨o2,g2⟩:=o1.stored p (encStr x)
       rw [txs_set,txs_set,ins_down hpl x] at o2
       obtain ⟨Z,hZ⟩:∃Z:ByteArray,Z=⟨l[p].toArray⟩:=⟨_,rfl⟩
       have eZ:encStr l[p]=.string Z:=by rw [hZ]
       have eX:encStr x=.string X:=by rw [toList_mk HX.out]
       rw [eZ] at hc0 o1 o2 g1 g2
       rw [eX] at o2 g2
       have hc2:(wr.setCell ⟨g,p+1,none⟩ (.string Z)).cell? ⟨g,p,none⟩=some (.string Z):=by
        rw [World.cell?_setCell_other _ _ _ _ (by intro e;injection e with _ e;omega)];exact hc0
       have hf2:(wr.setCell ⟨g,p+1,none⟩ (.string Z)).frozen? ⟨g,p,none⟩=false:=o1.frozenAt p
       have HR2:=Lib.hid o2
       have hsb:=HBR.out.size
       have hbb:=HB.out
       have HB2:=Lib.hid (show Below B w ((wr.setCell ⟨g,p+1,none⟩ (.string Z)).setCell ⟨g,p,none⟩ (.string X)) from HBR.out.grown (g1.trans g2) (by omega) (fun j hj=>by have:g=j:=Option.some.inj hj;have:=HGB.out;omega))
       clear o1 o2 g1 g2 hZ eZ eX hpl hsb hbb
       go_wp2_with fail
       go_roundw
       case rel=>exact ⟨p,by omega,by omega,by go_num,HR2,HB2⟩
       case measure=>simp [intOf] <;> omega
      ·obtain rfl:q=k:=by omega
       go_wp2_with fail
       go_ret
       refine ⟨_,rfl,?_,HBR.out⟩
       have h:=HR.out
       have hlen:=ins_len l x q
       rw [HRES.out] at h hlen
       rw [hlen,HL.out]
       exact h
  ·obtain rfl:k=n:=by omega
   have H2:=Lib.hid (show ∀y∈l.drop k,x < y from fun y hy=>by rw [List.drop_eq_nil_of_le (by rw [HL.out];exact Nat.le_refl _)] at hy;simp at hy)
   have HRES:=Lib.hid (put_at HU.out H1.out H2.out)
   go_wp2_with (at_builtin;refine wpList_append_rd _ rfl (.tmp 34) (.tmp 36) _ rfl B 9 i0 _ 1 16 Tryz.underlying23 hi hz0 hz1 hz2 rfl (by decide) _ k (txs l) rfl (HO.out.alloc _) _ (some ⟨w.heap.size,0,none⟩) 1 1 [.string X] rfl rfl (rd_new _ _ [.string X] _ (by simp)) (by simp [Value.oneCell']) (by unfold maxLen;omega) (by omega) (by have:=HB.out;simp;omega) ?_;intro v1 w1 hown1 hgr1 _;have HB1:=Lib.hid (show Below B w w1 from ((Below.refl _ _).alloc HB.out _).grown hgr1 (by have:=HB.out;simp;omega) (fun j hj=>(HO.out.lt j hj).1));have HO1:=Lib.hid hown1;obtain ⟨g,c1,hv,hgb⟩:∃g cap,v1=.slice (some ⟨g,0,none⟩) (k+1) cap∧B≤g:=(by
    rcases hown1.2 with ⟨h1,h2⟩ | ⟨g,cap,cur,hv,h1,_⟩
    ·omega
    ·exact ⟨g,cap,hv,h1⟩);subst hv;clear hown1 hgr1)
   have HGB:=Lib.hid hgb
   have HST:=Lib.hid (show w1.ownsRow B 9 1 (.slice (some ⟨g,0,none⟩) (k+1) c1) (k+1) (txs (l.take k++x :: l.drop k)) from by
    have e:l.take k++x :: l.drop k=l++[x]:=by rw [←HL.out];exact ins_end l x
    rw [e,txs_append]
    have e2:txs [x]=[.string X]:=by rw [toList_mk HX.out];rfl
    rw [e2];exact HO1.out)
   clear hgb HO1
   go_wp2_with fail
   go_loopw [6] (fun i wr=>∃q:Nat,k≤q∧q≤k∧i=.int .i64 q∧Hid (wr.ownsRow B 9 1 (.slice (some ⟨g,0,none⟩) (k+1) c1) (k+1) (txs (l.take q++x :: l.drop q)))∧Hid (Below B w wr)) (fun i _=>(intOf i).toNat)
   case atStart=>exact ⟨k,by omega,Nat.le_refl _,by go_num,HST,HB1⟩
   case round =>
    obtain ⟨q,hq1,hq2,rfl,HR,HBR⟩:=hrel
    by_cases hqk:k < q
    ·omega
    ·obtain rfl:q=k:=by omega
     go_wp2_with fail
     go_ret
     refine ⟨_,rfl,?_,HBR.out⟩
     have h:=HR.out
     have hlen:=ins_len l x q
     rw [HRES.out] at h hlen
     rw [hlen,HL.out]
     exact h
end Go.Proofs.YtegdbmbenjnacaaGreat.Sset
