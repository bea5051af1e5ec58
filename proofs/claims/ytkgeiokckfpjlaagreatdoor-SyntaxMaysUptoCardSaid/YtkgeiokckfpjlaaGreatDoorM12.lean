/-
  Texts of stage 7, part 12.
-/
import Derived.Shelf.Sort.Plain
import Derived.Shelf.Slices.In.SortNone
import Derived.Shelf.Slices.CompactS
import Derived.Shelf.Slices.Turned
import Derived.Shelf.Slices.Equal
import Derived.Shelf.Slices.Empties2
import Derived.Shelf.Spec.SearchS
import Derived.Test.YtkgeiokckfpjlaaGreatDoorM10
import Derived.Test.YtkgeiokckfpjlaaGreatDoorM11
namespace Go.Proofs.YtkgeiokckfpjlaaGreatDoor.Sset
open Go.Shelf Go.RowKit Go.Lib Go.Sort
open Utf (Rd Blk)
open Rset
set_option maxRecDepth 100000
def eqT_ren:Go.Shelf.Ren:=⟨fun | 193=>104 | n=>n,fun | 31=>32 | 9=>9 | 4=>4 | 3=>3 | 0=>0 | n=>n,fun | n=>n⟩
theorem eqT:Go.Proofs.Lays.n193 Tryz.prog eqT_ren:={
 mixed:=by kernel_rfl
 f193:=Tryz.func104.trans (congrArg some (by kernel_rfl))
 t0:=Tryz.underlying0
 a0:=Tryz.isAgg0
 z0:=Tryz.sizeOf0
 v0:=Tryz.zeroValue0
 t3:=Tryz.underlying3
 a3:=Tryz.isAgg3
 z3:=Tryz.sizeOf3
 v3:=Tryz.zeroValue3
 t4:=Tryz.underlying4
 a4:=Tryz.isAgg4
 z4:=Tryz.sizeOf4
 v4:=Tryz.zeroValue4
 t9:=Tryz.underlying9
 a9:=Tryz.isAgg9
 z9:=Tryz.sizeOf9
 v9:=Tryz.zeroValue9
 t31:=Tryz.underlying32
 a31:=Tryz.isAgg32
 z31:=Tryz.sizeOf32
 v31:=Tryz.zeroValue32 }
def bsT_ren:Go.Shelf.Ren:=⟨fun | 26=>321 | 33=>235 | 34=>333 | 38=>275 | n=>n,fun | 24=>32 | 9=>9 | 3=>3 | 4=>4 | 40=>189 | 0=>0 | n=>n,fun | n=>n⟩
theorem bsT:Go.Proofs.Lays2.n26 Tryz.prog bsT_ren:={
 mixed:=by kernel_rfl
 f26:=Tryz.func321.trans (congrArg some (by kernel_rfl))
 f33:=Tryz.func235.trans (congrArg some (by kernel_rfl))
 f34:=Tryz.func333.trans (congrArg some (by kernel_rfl))
 f38:=Tryz.func275.trans (congrArg some (by kernel_rfl))
 t0:=Tryz.underlying0
 a0:=Tryz.isAgg0
 z0:=Tryz.sizeOf0
 v0:=Tryz.zeroValue0
 t3:=Tryz.underlying3
 a3:=Tryz.isAgg3
 z3:=Tryz.sizeOf3
 v3:=Tryz.zeroValue3
 t4:=Tryz.underlying4
 a4:=Tryz.isAgg4
 z4:=Tryz.sizeOf4
 v4:=Tryz.zeroValue4
 t9:=Tryz.underlying9
 a9:=Tryz.isAgg9
 z9:=Tryz.sizeOf9
 v9:=Tryz.zeroValue9
 t24:=Tryz.underlying32
 a24:=Tryz.isAgg32
 z24:=Tryz.sizeOf32
 v24:=Tryz.zeroValue32
 t40:=Tryz.underlying189
 a40:=Tryz.isAgg189
 z40:=Tryz.sizeOf189
 v40:=Tryz.zeroValue189 }
def sortT_ren:Go.Shelf.Ren:=⟨fun | 190=>172 | 125=>197 | 258=>196 | 128=>238 | 129=>166 | 302=>229 | 303=>230 | 304=>231 | 305=>232 | 306=>233 | 307=>234 | 308=>235 | 309=>236 | 310=>237 | 333=>270 | 329=>271 | 330=>272 | 334=>273 | 335=>274 | 336=>275 | 344=>296 | n=>n,fun | 31=>32 | 9=>9 | 3=>3 | 46=>189 | 0=>0 | 51=>198 | 53=>172 | 4=>4 | 183=>239 | 182=>238 | 131=>243 | 5=>5 | 218=>269 | 222=>273 | 228=>289 | 229=>222 | n=>n,fun | n=>n⟩
theorem sortT:Go.Proofs.Lays.n190 Tryz.prog sortT_ren:={
 mixed:=by kernel_rfl
 f125:=Tryz.func197.trans (congrArg some (by kernel_rfl))
 f128:=Tryz.func238.trans (congrArg some (by kernel_rfl))
 f129:=Tryz.func166.trans (congrArg some (by kernel_rfl))
 f190:=Tryz.func172.trans (congrArg some (by kernel_rfl))
 f258:=Tryz.func196.trans (congrArg some (by kernel_rfl))
 f302:=Tryz.func229.trans (congrArg some (by kernel_rfl))
 f303:=Tryz.func230.trans (congrArg some (by kernel_rfl))
 f304:=Tryz.func231.trans (congrArg some (by kernel_rfl))
 f305:=Tryz.func232.trans (congrArg some (by kernel_rfl))
 f306:=Tryz.func233.trans (congrArg some (by kernel_rfl))
 f307:=Tryz.func234.trans (congrArg some (by kernel_rfl))
 f308:=Tryz.func235.trans (congrArg some (by kernel_rfl))
 f309:=Tryz.func236.trans (congrArg some (by kernel_rfl))
 f310:=Tryz.func237.trans (congrArg some (by kernel_rfl))
 f329:=Tryz.func271.trans (congrArg some (by kernel_rfl))
 f330:=Tryz.func272.trans (congrArg some (by kernel_rfl))
 f333:=Tryz.func270.trans (congrArg some (by kernel_rfl))
 f334:=Tryz.func273.trans (congrArg some (by kernel_rfl))
 f335:=Tryz.func274.trans (congrArg some (by kernel_rfl))
 f336:=Tryz.func275.trans (congrArg some (by kernel_rfl))
 f344:=Tryz.func296.trans (congrArg some (by kernel_rfl))
 t0:=Tryz.underlying0
 a0:=Tryz.isAgg0
 z0:=Tryz.sizeOf0
 v0:=Tryz.zeroValue0
 t3:=Tryz.underlying3
 a3:=Tryz.isAgg3
 z3:=Tryz.sizeOf3
 v3:=Tryz.zeroValue3
 t4:=Tryz.underlying4
 a4:=Tryz.isAgg4
 z4:=Tryz.sizeOf4
 v4:=Tryz.zeroValue4
 t5:=Tryz.underlying5
 a5:=Tryz.isAgg5
 z5:=Tryz.sizeOf5
 v5:=Tryz.zeroValue5
 t9:=Tryz.underlying9
 a9:=Tryz.isAgg9
 z9:=Tryz.sizeOf9
 v9:=Tryz.zeroValue9
 t31:=Tryz.underlying32
 a31:=Tryz.isAgg32
 z31:=Tryz.sizeOf32
 v31:=Tryz.zeroValue32
 t46:=Tryz.underlying189
 a46:=Tryz.isAgg189
 z46:=Tryz.sizeOf189
 v46:=Tryz.zeroValue189
 t51:=Tryz.underlying198
 a51:=Tryz.isAgg198
 z51:=Tryz.sizeOf198
 v51:=Tryz.zeroValue198
 t53:=Tryz.underlying172
 a53:=Tryz.isAgg172
 z53:=Tryz.sizeOf172
 v53:=Tryz.zeroValue172
 t131:=Tryz.underlying243
 a131:=Tryz.isAgg243
 z131:=Tryz.sizeOf243
 v131:=Tryz.zeroValue243
 t182:=Tryz.underlying238
 a182:=Tryz.isAgg238
 z182:=Tryz.sizeOf238
 v182:=Tryz.zeroValue238
 t183:=Tryz.underlying239
 a183:=Tryz.isAgg239
 z183:=Tryz.sizeOf239
 v183:=Tryz.zeroValue239
 t218:=Tryz.underlying269
 a218:=Tryz.isAgg269
 z218:=Tryz.sizeOf269
 v218:=Tryz.zeroValue269
 t222:=Tryz.underlying273
 a222:=Tryz.isAgg273
 z222:=Tryz.sizeOf273
 v222:=Tryz.zeroValue273
 t228:=Tryz.underlying289
 a228:=Tryz.isAgg289
 z228:=Tryz.sizeOf289
 v228:=Tryz.zeroValue289
 t229:=Tryz.underlying222
 a229:=Tryz.isAgg222
 z229:=Tryz.sizeOf222
 v229:=Tryz.zeroValue222 }
def compT_ren:Go.Shelf.Ren:=⟨fun | 194=>173 | n=>n,fun | 31=>32 | 9=>9 | 3=>3 | 4=>4 | 0=>0 | n=>n,fun | n=>n⟩
theorem compT:Go.Proofs.Lays.n194 Tryz.prog compT_ren:={
 mixed:=by kernel_rfl
 f194:=Tryz.func173.trans (congrArg some (by kernel_rfl))
 t0:=Tryz.underlying0
 a0:=Tryz.isAgg0
 z0:=Tryz.sizeOf0
 v0:=Tryz.zeroValue0
 t3:=Tryz.underlying3
 a3:=Tryz.isAgg3
 z3:=Tryz.sizeOf3
 v3:=Tryz.zeroValue3
 t4:=Tryz.underlying4
 a4:=Tryz.isAgg4
 z4:=Tryz.sizeOf4
 v4:=Tryz.zeroValue4
 t9:=Tryz.underlying9
 a9:=Tryz.isAgg9
 z9:=Tryz.sizeOf9
 v9:=Tryz.zeroValue9
 t31:=Tryz.underlying32
 a31:=Tryz.isAgg32
 z31:=Tryz.sizeOf32
 v31:=Tryz.zeroValue32 }
def ba (l:Tx):ByteArray:=⟨l.toArray⟩
theorem ba_list (l:Tx):(ba l).toList=l:=mk_toList l
theorem ba_inj {x y:Tx} (h:ba x=ba y):x=y:=by rw [←ba_list x,h,ba_list]
theorem map_ba {l:List Tx} {k:Nat} (h:k < l.length):(l.map ba).getD k ByteArray.empty=ba l[k]:=by simp [List.getD,List.getElem?_eq_getElem h]
theorem cells_ba {w:World} {B:Nat} {l:List Tx} {b o:Nat} (h:Rd w B (some ⟨b,o,none⟩) (txs l)):∀j,j < (l.map ba).length→w.cell? ⟨b,o+j,none⟩=some (.string ((l.map ba).getD j ByteArray.empty)):=fun j hj=>by
 rw [List.length_map] at hj
 rw [map_ba hj]
 exact rd_tx h hj
theorem eqT_any (A B:Option Addr) (a b:List Tx) (n m c d:Nat) (w:World) (ha:Rd w w.heap.size A (txs a)) (hb:Rd w w.heap.size B (txs b)) (hn:a.length=n) (hm:b.length=m) (hn1:n≤1099511627776) (hm1:m≤1099511627776) :
  Calls Tryz.prog 104 #[.slice A n c,.slice B m d] w fun e w'=>e=.returned (.bool (decide (a=b)))∧∃q,w'=w.drewN q:=by
 by_cases hnm:n=m
 ·by_cases h0:n=0
  ·subst h0
   have ha0:a=[]:=List.eq_nil_of_length_eq_zero hn
   have hb0:b=[]:=List.eq_nil_of_length_eq_zero (by omega)
   subst ha0 hb0
   have hcon:=Any.slices_Equal_string_empty eqT A B c m d w (by omega)
   change Calls Tryz.prog 104 _ _ _ at hcon
   exact hcon.mono fun e w' ⟨h1,h2⟩=>⟨by rw [h1,←hnm];rfl,0,h2⟩
  ·obtain ⟨b1,o1,rfl,_⟩:=rd_form_tx ha (by omega)
   obtain ⟨b2,o2,rfl,_⟩:=rd_form_tx hb (by omega)
   have hcon:=Any.slices_Equal_string eqT b1 o1 n c b2 o2 m d (a.map ba) (b.map ba) w (by rw [List.length_map];omega) (by rw [List.length_map];omega) (by omega) (by omega) (cells_ba ha) (cells_ba hb)
   change Calls Tryz.prog 104 _ _ _ at hcon
   refine hcon.mono fun e w' ⟨h1,h2⟩=>⟨?_,h2⟩
   rw [h1,List.take_of_length_le (by rw [List.length_map];omega),List.take_of_length_le (by rw [List.length_map];omega)]
   refine ret_bool ?_
   rw [decide_eq_decide]
   exact ⟨fun h=>List.map_inj_right (fun _ _ h=>ba_inj h) |>.1 h,fun h=>by rw [h]⟩
 ·have hcon:=Any.slices_Equal_string_lens eqT A B n c m d w hnm
  change Calls Tryz.prog 104 _ _ _ at hcon
  refine hcon.mono fun e w' ⟨h1,h2⟩=>⟨?_,0,h2⟩
  rw [h1]
  refine ret_bool ?_
  symm
  rw [decide_eq_false_iff_not]
  rintro rfl
  exact hnm (hn.symm.trans hm)
theorem bs_place (a:List Tx) (h:Up a) (x:Tx) (F:Nat→Tx) (hF:∀j (hj:j < a.length),F j=a[j]) (hF2:∀j,a.length≤j→F j=x) :
  ∃k,(∀t,t < k→decide (F t < x)=true)∧(∀t,k≤t→decide (F t < x)=false)∧k≤a.length∧(decide (k < a.length∧F k=x)=isIn a x):=by
 have up:∀i j:Nat,i < j→j < a.length→F i < F j:=fun i j hij hj=>by
  rw [hF i (by omega),hF j hj]
  exact List.pairwise_iff_getElem.1 h i j (by omega) hj hij
 have ex:∀n:Nat,n≤a.length→(∀t,t < n→F t < x)∨∃k,k < n∧(∀t,t < k→F t < x)∧¬F k < x:=by
  intro n
  induction n with
  | zero=>intro _;exact .inl fun t ht=>by omega
  | succ n ih =>
   intro hn
   rcases ih (by omega) with h1 | ⟨k,h1,h2,h3⟩
   ·by_cases hx:F n < x
    ·left;intro t ht
     rcases Nat.lt_or_ge t n with h2 | h2
     ·exact h1 t h2
     ·have:t=n:=by omega
      subst this;exact hx
    ·exact .inr ⟨n,by omega,h1,hx⟩
   ·exact .inr ⟨k,by omega,h2,h3⟩
 rcases ex a.length (Nat.le_refl _) with h1 | ⟨k,h1,h2,h3⟩
 ·refine ⟨a.length,fun t ht=>decide_eq_true (h1 t ht),fun t ht=>decide_eq_false (by rw [hF2 t ht];exact lt_irr x),Nat.le_refl _,?_⟩
  unfold isIn
  rw [decide_eq_decide]
  refine ⟨fun ⟨h,_⟩=>absurd h (Nat.lt_irrefl _),fun hm=>?_⟩
  obtain ⟨i,hi,rfl⟩:=List.getElem_of_mem hm
  have:=h1 i hi
  rw [hF i hi] at this
  exact absurd this (lt_irr _)
 ·refine ⟨k,fun t ht=>decide_eq_true (h2 t ht),fun t ht=>decide_eq_false fun hlt=>?_,by omega,?_⟩
  ·rcases Nat.lt_or_ge t a.length with h4 | h4
   ·rcases Nat.lt_or_ge k t with h5 | h5
    ·exact h3 (lt_tr (up k t h5 h4) hlt)
    ·have:t=k:=by omega
     subst this;exact h3 hlt
   ·rw [hF2 t h4] at hlt;exact lt_irr x hlt
  ·unfold isIn
   rw [decide_eq_decide]
   constructor
   ·rintro ⟨_,hk⟩
    rw [hF k h1] at hk
    rw [←hk]
    exact List.getElem_mem h1
   ·intro hm
    obtain ⟨i,hi,he⟩:=List.getElem_of_mem hm
    refine ⟨h1,?_⟩
    rw [←hF i hi] at he
    rcases Nat.lt_trichotomy i k with h4 | h4 | h4
    ·have:=h2 i h4;rw [he] at this;exact absurd this (lt_irr _)
    ·rw [←h4];exact he
    ·have:=up k i h4 hi;rw [he] at this;exact absurd this h3
theorem bs_any (A:Option Addr) (a:List Tx) (n c:Nat) (X:ByteArray) (x:Tx) (hX:X.toList=x) (w:World) (ha:Rd w w.heap.size A (txs a)) (hn:a.length=n) (hu:Up a) (hn1:n≤1099511627776) :
  Calls Tryz.prog 321 #[.slice A n c,.string X] w fun e w'=>(∃k:Int,e=.returned (.tuple #[.int .i64 k,.bool (isIn a x)]))∧∃q,w'=w.drewN q:=by
 by_cases h0:n=0
 ·subst h0
  have ha0:a=[]:=List.eq_nil_of_length_eq_zero hn
  subst ha0
  have hcon:=Any2.slices_BinarySearch_string_empty bsT A c X w
  change Calls Tryz.prog 321 _ _ _ at hcon
  exact hcon.mono fun e w' ⟨h1,h2⟩=>⟨⟨0,by rw [h1,isIn_nil]⟩,0,h2⟩
 ·obtain ⟨b1,o1,rfl,_⟩:=rd_form_tx ha (by omega)
  have hF2:∀j,(if h:j < a.length then ba a[j] else X).toList=(if h:j < a.length then a[j] else x):=fun j=>by
   by_cases h:j < a.length
   ·rw [dif_pos h,dif_pos h,ba_list]
   ·rw [dif_neg h,dif_neg h,hX]
  have hcon:=Any2.slices_BinarySearch_string bsT b1 o1 n c (fun j=>if h:j < a.length then ba a[j] else X) X w (by omega) (fun j hj=>by
   rw [dif_pos (by omega)];exact rd_tx ha (by omega))
  change Calls Tryz.prog 321 _ _ _ at hcon
  obtain ⟨k,k1,k2,k3,k4⟩:=bs_place a hu x (fun j=>if h:j < a.length then a[j] else x) (fun j hj=>dif_pos hj) (fun j hj=>dif_neg (by omega))
  refine hcon.mono fun e w' ⟨h1,h2⟩=>⟨⟨k,?_⟩,h2⟩
  have hb:Lib.bsGo (fun t=>Op.bytesLess (if h:t < a.length then ba a[t] else X).toList X.toList) n 0 n=k:=by
   refine Lib.bsGo_spec _ k (fun t ht=>?_) (fun t ht=>?_) n 0 n (by omega) (Nat.zero_le _) (by omega)
   ·rw [bytesLess_eq,hF2,hX];exact k1 t ht
   ·rw [bytesLess_eq,hF2,hX];exact k2 t ht
  rw [h1,hb,←k4]
  have key:decide (k < n∧(if h:k < a.length then ba a[k] else X)=X)=decide (k < a.length∧(if h:k < a.length then a[k] else x)=x):=by
   rw [decide_eq_decide]
   refine and_congr (by rw [hn]) ?_
   constructor
   ·intro h
    have:=congrArg ByteArray.toList h
    rw [hF2,hX] at this
    exact this
   ·intro h
    have h3:=hF2 k
    rw [h] at h3
    rw [toList_mk h3,toList_mk hX]
  rw [key]
theorem grow_none (u:World):grow u #[]=u:=by cases u;simp [grow]
theorem own_put {w:World} {base g n cap:Nat} {L L':List Tx} (h:w.ownsRow base 9 1 (.slice (some ⟨g,0,none⟩) n cap) n (txs L)) (hl:L'.length=n) (k:Nat) (os:Array Obj) :
  (grow (putRow encStr (Sort.ahead w k) g 0 L'.toArray) os).ownsRow base 9 1 (.slice (some ⟨g,0,none⟩) n cap) n (txs L')∧w.grownBy (grow (putRow encStr (Sort.ahead w k) g 0 L'.toArray) os) (some g):=by
 rcases h.2 with ⟨hv,_⟩ | ⟨g',cap',cur,hv,h1,h2,h3,h4,h5,h6⟩
 ·cases hv
 ·simp only [Value.slice.injEq,Option.some.injEq,Addr.mk.injEq,and_true,true_and] at hv
  obtain ⟨rfl,rfl⟩:=hv
  have hlt:g < w.heap.size:=(Array.getElem?_eq_some_iff.1 h2).1
  refine ⟨⟨by rw [txs_len,hl,Nat.mul_one],.inr ⟨g,cap,putCells encStr 0 L'.toArray cur,rfl,h1,?_,h3,h4,by simp [putCells,h5],?_⟩⟩,⟨rfl,rfl,rfl,by simp,fun j hj hne=>?_⟩⟩
  ·rw [heap_grow_old _ _ (by simpa using hlt)]
   simp [putRow,mapBlock,Sort.ahead,Array.getElem?_modify,h2,onCells]
  ·apply List.ext_getElem?
   intro j
   rw [Nat.mul_one,List.getElem?_take]
   by_cases hj:j < n
   ·rw [if_pos hj,txs_get (by omega)]
    simp only [putCells,Array.getElem?_toList,Array.getElem?_mapIdx]
    rw [Array.getElem?_eq_getElem (by omega)]
    simp only [Option.map_some]
    rw [if_pos ⟨Nat.zero_le _,by simp;omega⟩,Nat.sub_zero,getElem!_pos _ j (by simp;omega)]
    simp
   ·rw [if_neg hj,List.getElem?_eq_none (by rw [txs_len];omega)]
  ·rw [heap_grow_old _ _ (by simpa using hj)]
   have:g≠j:=fun e=>hne (by rw [e])
   simp [putRow,mapBlock,Sort.ahead,Array.getElem?_modify,this]
theorem holds_own {w:World} {base g n cap:Nat} {L:List Tx} (h:w.ownsRow base 9 1 (.slice (some ⟨g,0,none⟩) n cap) n (txs L)):Holds encStr w g 0 L.toArray:=by
 intro j hj
 have hl:=h.1
 rw [txs_len] at hl
 have hj':j < L.length:=by simpa using hj
 refine ⟨?_,h.frozenAt _⟩
 rw [Nat.zero_add,h.cellAt j (by omega),txs_get hj',getElem!_pos _ j (by simpa using hj')]
 simp
theorem own_pre {w:World} {base g n k cap:Nat} {L:List Tx} (h:w.ownsRow base 9 1 (.slice (some ⟨g,0,none⟩) n cap) n (txs L)) (hk:k≤n):w.ownsRow base 9 1 (.slice (some ⟨g,0,none⟩) k cap) k (txs (L.take k)):=by
 have hl:=h.1
 rw [txs_len,Nat.mul_one] at hl
 rcases h.2 with ⟨hv,_⟩ | ⟨g',cap',cur,hv,h1,h2,h3,h4,h5,h6⟩
 ·cases hv
 ·simp only [Value.slice.injEq,Option.some.injEq,Addr.mk.injEq,and_true,true_and] at hv
  obtain ⟨rfl,rfl⟩:=hv
  refine ⟨by rw [txs_len,List.length_take];omega,.inr ⟨g,cap,cur,rfl,h1,h2,by omega,h4,h5,?_⟩⟩
  rw [←txs_take,←h6,List.take_take]
  congr 1
  omega
def OwnT (B:Nat) (w:World) (L:List Tx) (e:Ending) (w':World):Prop:=∃v,e=.returned v∧w'.ownsRow B 9 1 v L.length (txs L)∧Below B w w'
def Sorts (B:Nat) (v:Value) (n:Nat) (L:List Tx) (w:World) (e:Ending) (w':World):Prop:=e=.returned (.tuple #[])∧w'.ownsRow B 9 1 v n (txs L)∧Below B w w'
theorem sortT_any (B n:Nat) (v:Value) (L:List Tx) (w:World) (h:w.ownsRow B 9 1 v n (txs L)) (hB:B≤w.heap.size) (hsm:n≤4294967296) :
  Calls Tryz.prog 172 #[v] w (Sorts B v n (L.mergeSort fun x y=>decide (x≤y)) w):=by
 have hl:=h.1
 rw [txs_len,Nat.mul_one] at hl
 rcases h.2 with ⟨rfl,hn⟩ | ⟨g,cap,cur,rfl,h1,h2,h3,h4,h5,h6⟩
 ·subst hn
  have hL:L=[]:=List.eq_nil_of_length_eq_zero hl
  subst hL
  have hcon:=Any.slices_Sort_string_none sortT none 0 w
  change Calls Tryz.prog 172 _ _ _ at hcon
  refine hcon.mono ?_
  rintro e w' ⟨rfl,rfl⟩
  rw [List.mergeSort_nil]
  exact ⟨rfl,h,Below.refl _ _⟩
 ·have hcon:=Any.slices_Sort_string sortT g 0 cap L w (holds_own h) (Array.getElem?_eq_some_iff.1 h2).1 (by omega)
  change Calls Tryz.prog 172 _ _ _ at hcon
  rw [hl] at hcon
  refine hcon.mono ?_
  rintro e w' ⟨rfl,k,os,rfl⟩
  obtain ⟨k1,k2⟩:=own_put h (L':=L.mergeSort fun x y=>decide (x≤y)) (by rw [List.length_mergeSort];exact hl) k os
  exact ⟨rfl,k1,(Below.refl _ _).grown k2 hB (fun j hj=>by injection hj with hj;omega)⟩
theorem compT_any (B n:Nat) (v:Value) (L:List Tx) (w:World) (h:w.ownsRow B 9 1 v n (txs L)) (hB:B≤w.heap.size) (hsm:n≤4294967296) :
  Calls Tryz.prog 173 #[v] w (OwnT B w (Lib.compact L)):=by
 have hl:=h.1
 rw [txs_len,Nat.mul_one] at hl
 rcases h.2 with ⟨rfl,hn⟩ | ⟨g,cap,cur,rfl,h1,h2,h3,h4,h5,h6⟩
 ·subst hn
  have hL:L=[]:=List.eq_nil_of_length_eq_zero hl
  subst hL
  have hcon:=Any.slices_Compact_string_empty compT none 0 w
  change Calls Tryz.prog 173 _ _ _ at hcon
  refine hcon.mono ?_
  rintro e w' ⟨rfl,rfl⟩
  exact ⟨_,rfl,h,Below.refl _ _⟩
 ·have hcon:=Any.slices_Compact_string compT g 0 cap L w (holds_own h) (by omega) (by omega)
  change Calls Tryz.prog 173 _ _ _ at hcon
  rw [hl] at hcon
  refine hcon.mono ?_
  rintro e w' ⟨rfl,k,rfl⟩
  have hcl:=compact_len L
  obtain ⟨k1,k2⟩:=own_put h (L':=Lib.compact L++List.replicate (n - (Lib.compact L).length) []) (by rw [List.length_append,List.length_replicate];omega) k #[]
  rw [grow_none] at k1 k2
  have k3:=own_pre k1 (k:=(Lib.compact L).length) (by omega)
  rw [List.take_left' rfl] at k3
  exact ⟨_,rfl,k3,(Below.refl _ _).grown k2 hB (fun j hj=>by injection hj with hj;omega)⟩
end Go.Proofs.YtkgeiokckfpjlaaGreatDoor.Sset
namespace Go.Proofs.YtkgeiokckfpjlaaGreatDoor.Sset
open Go.RowKit
open Utf (Rd Blk bys bys_len nums nums_len wpList_append_rd own_ne)
open Rset
set_option maxRecDepth 100000
theorem txs_get' {l:List Tx} {k:Nat} {y:Tx} (h:l[k]? = some y):(txs l)[k]? = some (encStr y):=by
 unfold txs;rw [List.getElem?_map,h];rfl
theorem txs_getD {l:List Tx} {k:Nat} (h:k < l.length):(txs l)[k]? = some (encStr l[k]):=txs_get h
set_option maxHeartbeats 8000000 in
theorem rput_any (B n:Nat) (v:Value) (l:List Tx) (X:ByteArray) (x:Tx) (hX:X.toList=x) (w:World) (h:w.ownsRow B 9 1 v n (txs l)) (hB:B≤w.heap.size) (hU:Up l) (hn:n≤1073741824) :
  Calls Tryz.prog 108 #[v,.string X] w (OwnT B w (rise (l++[x]))):=by
 obtain ⟨i0,hi,hz0,hz1,hz2⟩:=info_parts infoStr
 have hl:l.length=n:=by have:=h.1;rw [txs_len,Nat.mul_one] at this;exact this
 obtain ⟨A,c,rfl,hc1,hc2,hr⟩:=own_form h
 have HO:=Lib.hid h;have HL:=Lib.hid hl;have HU:=Lib.hid hU;have HB:=Lib.hid hB;have HX:=Lib.hid hX
 have HR0:=Lib.hid hr
 clear h hl hU hB hX hr
 go_enter Tryz.func108,Tryz.ntmps108
 go_wp2_with fail
 go_loopw [5] (fun i wr=>∃k:Nat,k≤n∧i=.int .i64 k∧Hid (∀y∈l.take k,y < x)∧w=wr) (fun i _=>n - (intOf i).toNat)
 case atStart=>exact ⟨0,Nat.zero_le _,rfl,Lib.hid (fun y hy=>by simp at hy),rfl⟩
 case round =>
  obtain ⟨k,hk,rfl,H1,rfl⟩:=hrel
  by_cases hlt:k < n
  ·have hkl:k < l.length:=by rw [HL.out];exact hlt
   obtain ⟨b,o,rfl,_⟩:=rd_form_tx HR0.out (by omega)
   have c0:=rd_tx HR0.out hkl
   obtain ⟨Y,hY⟩:∃Y:ByteArray,Y=⟨l[k].toArray⟩:=⟨_,rfl⟩
   have cY:w.cell? ⟨b,o+k,none⟩=some (.string Y):=by rw [c0,hY]
   have hYl:Y.toList=l[k]:=by rw [hY,mk_toList]
   by_cases hlx:l[k] < x
   ·have he1:Op.bytesLess Y.toList X.toList=true:=by rw [bytesLess_eq,hYl,HX.out];exact decide_eq_true hlx
    have HN:=Lib.hid (show ∀y∈l.take (k+1),y < x from by
     rw [List.take_succ_eq_append_getElem hkl]
     intro y hy
     rcases List.mem_append.1 hy with hy | hy
     ·exact H1.out y hy
     ·rw [List.mem_singleton.1 hy];exact hlx)
    clear c0 hY hYl hlx hkl
    go_wp2_with fail
    go_roundw
    case rel=>exact ⟨k+1,by omega,by go_num,HN,by trivial⟩
    case measure=>simp [intOf];omega
   ·have he1:Op.bytesLess Y.toList X.toList=false:=by rw [bytesLess_eq,hYl,HX.out];exact decide_eq_false hlx
    by_cases hex:l[k]=x
    ·have he2:(Y.toList == X.toList)=true:=by rw [hYl,HX.out,hex];simp
     have HRES:=Lib.hid (put_there HU.out (show x∈l from hex ▸ List.getElem_mem hkl))
     clear c0 hY hYl hlx hex hkl
     go_wp2_with fail
     go_ret
     refine ⟨_,rfl,?_,Below.refl _ _⟩
     rw [←HRES.out,HL.out]
     exact HO.out
    ·have he2:(Y.toList == X.toList)=false:=by rw [hYl,HX.out,beq_eq_false_iff_ne];exact hex
     have H2:=Lib.hid (drop_gt HU.out hkl (gt_of hlx hex))
     clear c0 hY hYl hlx hex hkl
     have HRES:=Lib.hid (put_at HU.out H1.out H2.out)
     go_wp2_with (at_builtin;refine wpList_append_rd _ rfl (.tmp 34) (.tmp 36) _ rfl B 9 i0 _ 1 16 Tryz.underlying32 hi hz0 hz1 hz2 rfl (by decide) _ n (txs l) rfl (HO.out.alloc _) _ (some ⟨w.heap.size,0,none⟩) 1 1 [.string X] rfl rfl (rd_new _ _ [.string X] _ (by simp)) (by simp [Value.oneCell']) (by unfold maxLen;omega) (by omega) (by have:=HB.out;simp;omega) ?_;intro v1 w1 hown1 hgr1 _;have HB1:=Lib.hid (show Below B w w1 from ((Below.refl _ _).alloc HB.out _).grown hgr1 (by have:=HB.out;simp;omega) (fun j hj=>(HO.out.lt j hj).1));have HO1:=Lib.hid hown1;obtain ⟨g,c1,hv,hgb⟩:∃g cap,v1=.slice (some ⟨g,0,none⟩) (n+1) cap∧B≤g:=(by
      rcases hown1.2 with ⟨h1,h2⟩ | ⟨g,cap,cur,hv,h1,_⟩
      ·omega
      ·exact ⟨g,cap,hv,h1⟩);subst hv;clear hown1 hgr1)
     have HGB:=Lib.hid hgb
     have HST:=Lib.hid (show w1.ownsRow B 9 1 (.slice (some ⟨g,0,none⟩) (n+1) c1) (n+1) (txs (l.take n++x :: l.drop n)) from by
      have e:l.take n++x :: l.drop n=l++[x]:=by rw [←HL.out];exact ins_end l x
      rw [e,txs_append]
      have e2:txs [x]=[.string X]:=by rw [toList_mk HX.out];rfl
      rw [e2];exact HO1.out)
     clear hgb HO1
     go_wp2_with fail
     go_loopw [6] (fun i wr=>∃q:Nat,k≤q∧q≤n∧i=.int .i64 q∧Hid (wr.ownsRow B 9 1 (.slice (some ⟨g,0,none⟩) (n+1) c1) (n+1) (txs (l.take q++x :: l.drop q)))∧Hid (Below B w wr)) (fun i _=>(intOf i).toNat)
     case atStart=>exact ⟨n,by omega,Nat.le_refl _,by go_num,HST,HB1⟩
     case round =>
      obtain ⟨q,hq1,hq2,rfl,HR,HBR⟩:=hrel
      by_cases hqk:k < q
      ·obtain ⟨p,rfl⟩:∃p,q=p+1:=⟨q - 1,by omega⟩
       have hpl:p < l.length:=by rw [HL.out];omega
       have hc0:wr.cell? ⟨g,p,none⟩=some (encStr l[p]):=by
        rw [HR.out.cellAt p (by omega),txs_get' (ins_get hpl x)]
       obtain ⟨u1,hc1⟩:∃u,wr.cell? ⟨g,p+1,none⟩=some u:=⟨_,by rw [HR.out.cellAt (p+1) (by omega),txs_getD (show p+1 < (l.take (p+1)++x :: l.drop (p+1)).length by rw [ins_len];omega)]⟩
       have hf1:=HR.out.frozenAt (p+1)
       obtain ⟨o1,g1⟩:=HR.out.stored (p+1) (encStr l[p])
       obtain ⟨o2,g2⟩:=o1.stored p (encStr x)
       rw [txs_set,txs_set,ins_down hpl x] at o2
       obtain ⟨Z,hZ⟩:∃Z:ByteArray,Z=⟨l[p].toArray⟩:=⟨_,rfl⟩
       have eZ:encStr l[p]=.string Z:=by rw [hZ]
       have eX:encStr x=.string X:=by rw [toList_mk HX.out]
       rw [eZ] at hc0 o1 o2 g1 g2
       rw [eX] at o2 g2
       have hc2:(wr.setCell ⟨g,p+1,none⟩ (.string Z)).cell? ⟨g,p,none⟩=some (.string Z):=by
        rw [World.cell?_setCell_other _ _ _ _ (by intro e;injection e with _ e;omega)];exact hc0
       have hf2:(wr.setCell ⟨g,p+1,none⟩ (.string Z)).frozen? ⟨g,p,none⟩=false:=o1.frozenAt p
       have HR2:=Lib.hid o2
       have hsb:=HBR.out.size
       have hbb:=HB.out
       have HB2:=Lib.hid (show Below B w ((wr.setCell ⟨g,p+1,none⟩ (.string Z)).setCell ⟨g,p,none⟩ (.string X)) from HBR.out.grown (g1.trans g2) (by omega) (fun j hj=>by have:g=j:=Option.some.inj hj;have:=HGB.out;omega))
       clear o1 o2 g1 g2 hZ eZ eX hpl hsb hbb
       go_wp2_with fail
       go_roundw
       case rel=>exact ⟨p,by omega,by omega,by go_num,HR2,HB2⟩
       case measure=>simp [intOf] <;> omega
      ·obtain rfl:q=k:=by omega
       go_wp2_with fail
       go_ret
       refine ⟨_,rfl,?_,HBR.out⟩
       have h:=HR.out
       have hlen:=ins_len l x q
       rw [HRES.out] at h hlen
       rw [hlen,HL.out]
       exact h
  ·obtain rfl:k=n:=by omega
   have H2:=Lib.hid (show ∀y∈l.drop k,x < y from fun y hy=>by rw [List.drop_eq_nil_of_le (by rw [HL.out];exact Nat.le_refl _)] at hy;simp at hy)
   have HRES:=Lib.hid (put_at HU.out H1.out H2.out)
   go_wp2_with (at_builtin;refine wpList_append_rd _ rfl (.tmp 34) (.tmp 36) _ rfl B 9 i0 _ 1 16 Tryz.underlying32 hi hz0 hz1 hz2 rfl (by decide) _ k (txs l) rfl (HO.out.alloc _) _ (some ⟨w.heap.size,0,none⟩) 1 1 [.string X] rfl rfl (rd_new _ _ [.string X] _ (by simp)) (by simp [Value.oneCell']) (by unfold maxLen;omega) (by omega) (by have:=HB.out;simp;omega) ?_;intro v1 w1 hown1 hgr1 _;have HB1:=Lib.hid (show Below B w w1 from ((Below.refl _ _).alloc HB.out _).grown hgr1 (by have:=HB.out;simp;omega) (fun j hj=>(HO.out.lt j hj).1));have HO1:=Lib.hid hown1;obtain ⟨g,c1,hv,hgb⟩:∃g cap,v1=.slice (some ⟨g,0,none⟩) (k+1) cap∧B≤g:=(by
    rcases hown1.2 with ⟨h1,h2⟩ | ⟨g,cap,cur,hv,h1,_⟩
    ·omega
    ·exact ⟨g,cap,hv,h1⟩);subst hv;clear hown1 hgr1)
   have HGB:=Lib.hid hgb
   have HST:=Lib.hid (show w1.ownsRow B 9 1 (.slice (some ⟨g,0,none⟩) (k+1) c1) (k+1) (txs (l.take k++x :: l.drop k)) from by
    have e:l.take k++x :: l.drop k=l++[x]:=by rw [←HL.out];exact ins_end l x
    rw [e,txs_append]
    have e2:txs [x]=[.string X]:=by rw [toList_mk HX.out];rfl
    rw [e2];exact HO1.out)
   clear hgb HO1
   go_wp2_with fail
   go_loopw [6] (fun i wr=>∃q:Nat,k≤q∧q≤k∧i=.int .i64 q∧Hid (wr.ownsRow B 9 1 (.slice (some ⟨g,0,none⟩) (k+1) c1) (k+1) (txs (l.take q++x :: l.drop q)))∧Hid (Below B w wr)) (fun i _=>(intOf i).toNat)
   case atStart=>exact ⟨k,by omega,Nat.le_refl _,by go_num,HST,HB1⟩
   case round =>
    obtain ⟨q,hq1,hq2,rfl,HR,HBR⟩:=hrel
    by_cases hqk:k < q
    ·omega
    ·obtain rfl:q=k:=by omega
     go_wp2_with fail
     go_ret
     refine ⟨_,rfl,?_,HBR.out⟩
     have h:=HR.out
     have hlen:=ins_len l x q
     rw [HRES.out] at h hlen
     rw [hlen,HL.out]
     exact h
end Go.Proofs.YtkgeiokckfpjlaaGreatDoor.Sset
