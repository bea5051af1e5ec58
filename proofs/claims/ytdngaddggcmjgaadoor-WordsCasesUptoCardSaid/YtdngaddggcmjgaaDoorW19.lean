/-
  Texts of stage 7, part 19.
-/
import Derived.Test.YtdngaddggcmjgaaDoorW9
import Derived.Test.YtdngaddggcmjgaaDoorW18
namespace Go.Proofs.YtdngaddggcmjgaaDoor.Norm
open Go.Shelf Go.RowKit Go.Sort Utf
open Ucd hiding grow same Told
set_option maxHeartbeats 2000000 in
theorem class_grow (r:Int) (w:World) (hL:Laid w) :
  Calls Tryd.prog 73 #[.int .i32 r] w fun e w'=>e=.returned (.int .i64 (cls r))∧∃os,w'=grow w os:=by
 obtain ⟨ty,fr,hB⟩:=hL.1
 have HB:=Lib.hid hB
 clear hL hB
 go_enter Tryd.func73,Tryd.ntmps73
 go_wp2_with (refine wpList_load_row rfl _ _ rfl 1 rfl _ _ _ _ HB.out Tryd.underlying121 rfl (by kernel_rfl) ?_)
 obtain ⟨arr,harr⟩:∃arr,arr=(c3 clsRows).toArray:=⟨_,rfl⟩
 rw [←harr]
 have hidx:∀k:Nat,k < 23→∀u:World,(Instr.index 121 (.agg arr) (.int .i64 k)).run Tryd.prog u=.ok (.agg (arr.extract (k*3) (k*3+3))) u:=fun k hk u=>run_index_row arr k Tryd.underlying121 Tryd.isAgg120 Tryd.sizeOf120 hk u
 have HI:=Lib.hid hidx
 have HA:=Lib.hid harr
 clear hidx harr
 go_loopw [6] (fun i wr=>∃k:Nat,k≤23∧i=.int .i64 k∧Hid (Ucd.look 0 (clsRows.drop k) r=cls r∧∃os,wr=grow w os)) (fun i _=>23 - (intOf i).toNat)
 case atStart=>exact ⟨0,Nat.zero_le _,rfl,Lib.hid ⟨rfl,#[],(grow_empty w).symm⟩⟩
 case round =>
  obtain ⟨k,hk,rfl,H⟩:=hrel
  by_cases hlt:k < 23
  ·have hx:∀u:World,(Instr.index 121 (.agg arr) (.int .i64 k)).run Tryd.prog u=.ok (.agg #[.int .i32 (clsRows[k]'hlt).1,.int .i32 (clsRows[k]'hlt).2.1,.int .i32 (clsRows[k]'hlt).2.2]) u:=fun u=>by
    rw [HI.out k hlt u,HA.out,c3_row clsRows k hlt]
   have hd:Ucd.look 0 (clsRows.drop k) r=if r < (clsRows[k]'hlt).1 then 0 else if r≤(clsRows[k]'hlt).2.1 then (clsRows[k]'hlt).2.2 else Ucd.look 0 (clsRows.drop (k+1)) r:=by
    rw [List.drop_eq_getElem_cons hlt];rfl
   have hv:-2147483648≤(clsRows[k]'hlt).2.2∧(clsRows[k]'hlt).2.2≤2147483647:=by
    have:∀x∈clsRows,-2147483648≤x.2.2∧x.2.2≤2147483647:=by decide +kernel
    exact this _ (List.getElem_mem _)
   generalize clsRows[k]'hlt=row at hx hd hv
   obtain ⟨lo,hi,v⟩:=row
   dsimp only at hx hd hv
   obtain ⟨v1,v2⟩:=hv
   have HD:=Lib.hid hd
   have HG:=Lib.hid (show ∀o:Obj,∃os,wr.alloc o=grow w os from fun o=>by
    obtain ⟨os,hos⟩:=H.out.2
    exact ⟨os++#[o],by rw [hos,alloc_eq_grow,grow_grow]⟩)
   clear hd
   go_wp2
   ·go_ret
    have ht:r < lo:=by assumption
    exact ⟨ret_int (by rw [←H.out.1,HD.out,if_pos ht]),HG.out _⟩
   ·go_ret
    have ht:lo≤r:=by assumption
    have hu:r≤hi:=by assumption
    exact ⟨ret_int (by rw [←H.out.1,HD.out,if_neg (by omega),if_pos hu]),HG.out _⟩
   ·have ht:lo≤r:=by assumption
    have hu:hi < r:=by assumption
    go_roundw
    case rel=>exact ⟨k+1,by omega,by go_num,Lib.hid ⟨by rw [←H.out.1,HD.out,if_neg (by omega),if_neg (by omega)],HG.out _⟩⟩
    case measure=>simp [intOf];omega
  ·go_wp2
   go_ret
   exact ⟨ret_int (by rw [←H.out.1,List.drop_of_length_le (by show 23≤k;omega)];rfl),H.out.2⟩
def cf (x y:Int):Int:=if cls x < cls y then -1 else if cls y < cls x then 1 else 0
theorem cf_lt (x y:Int):cf x y < 0↔cls x < cls y:=by
 unfold cf
 split
 ·simp [*]
 ·split
  ·simp;omega
  ·simp;omega
theorem isNaN_any (x:Int) (w:World):Calls Tryd.prog 86 #[.int .i64 x] w fun e w'=>e=.returned (.bool false)∧w=w':=by
 have hx:(x != x)=false:=by simp
 go_enter Tryd.func86,Tryd.ntmps86
 go_wp2
 go_ret
 exact ⟨rfl,rfl⟩
theorem compare_any (x y:Int) (w:World):Calls Tryd.prog 76 #[.int .i64 x,.int .i64 y] w fun e w'=>e=.returned (.int .i64 (if x < y then -1 else if y < x then 1 else 0))∧w=w':=by
 go_enter Tryd.func76,Tryd.ntmps76
 by_cases h1:x < y
 ·rw [if_pos h1]
  go_wp2_with (go_at_call 86;refine (isNaN_any _ _).mono ?_;rintro e w1 ⟨rfl,rfl⟩)
  go_ret
  exact ⟨rfl,rfl⟩
 ·by_cases h2:y < x
  ·rw [if_neg h1,if_pos h2]
   go_wp2_with (go_at_call 86;refine (isNaN_any _ _).mono ?_;rintro e w1 ⟨rfl,rfl⟩)
   go_ret
   exact ⟨rfl,rfl⟩
  ·rw [if_neg h1,if_neg h2]
   go_wp2_with (go_at_call 86;refine (isNaN_any _ _).mono ?_;rintro e w1 ⟨rfl,rfl⟩)
   go_ret
   exact ⟨rfl,rfl⟩
theorem laid_grow {w:World} (h:Laid w) (os:Array Obj):Laid (grow w os):=by
 have:Below w.heap.size w (grow w os):=⟨rfl,rfl,rfl,by simp [grow],fun k hk=>heap_grow_old w os hk⟩
 exact h.next this
theorem order1_any (x y:Int) (w:World) (hL:Laid w):Calls Tryd.prog 75 #[.int .i32 x,.int .i32 y] w fun e w'=>e=.returned (.int .i64 (cf x y))∧∃q os,w'=grow (w.drewN q) os:=by
 have HC:=Lib.hid (fun (r:Int) (u:World) (h:Laid u)=>class_grow r u h)
 have HE:=Lib.hid (show cf x y=if cls x < cls y then -1 else if cls y < cls x then 1 else 0 from rfl)
 have HL:=Lib.hid hL
 clear hL
 generalize cf x y=v at HE ⊢
 go_enter Tryd.func75,Tryd.ntmps75
 go_wp2_with fail
 refine (HC.out x _ HL.out).mono ?_
 rintro e w1 ⟨rfl,os1,rfl⟩
 have HL1:=Lib.hid (laid_grow HL.out os1)
 go_wp2_with fail
 refine (HC.out y _ HL1.out).mono ?_
 rintro e w2 ⟨rfl,os2,rfl⟩
 go_wp2_with fail
 refine (compare_any _ _ _).mono ?_
 rintro e w3 ⟨rfl,rfl⟩
 rw [←HE.out]
 go_wp2_with fail
 go_ret
 exact ⟨rfl,0,os1++os2,by rw [grow_grow];rfl⟩
theorem sg_all {α:Type} [Inhabited α] (d:Array α):sg 0 d.size d=d.toList:=by
 apply List.ext_getElem (by simp [sg])
 intro i h1 h2
 rw [sg_get]
 simp only [Nat.zero_add,Array.getElem_toList]
 exact getElem!_pos d i (by simpa using h2)
theorem up_of_srt {d:Array Int} (h:Srt cls 0 d.size d):Up d.toList:=by
 unfold Up
 rw [List.pairwise_iff_getElem]
 intro i j hi hj hij
 have h3:=h i j (Nat.zero_le _) hij (by simpa using hj)
 rw [getElem!_pos d i (by simpa using hi),getElem!_pos d j (by simpa using hj)] at h3
 simpa using h3
theorem mg_ord {d d':Array Int} (h:Mg cls 0 d.size d d'):d'.toList=ord d.toList:=by
 have hs:d'.size=d.size:=h.1.size
 refine ord_uniq (up_of_srt (by rw [hs];exact h.2)) fun c=>?_
 have:=h.1.key c
 rw [Nat.sub_zero,sg_all] at this
 rw [←this,←hs,sg_all]
theorem row_holds {w:World} {g n s:Nat} {cur:Array Value} {e:TypeId} {xs:List Int} (hb:w.heap[g]? = some (.cells cur e (0,0))) (ht:cur.toList.take n=nums xs):Holds e32 w g s (xs.drop s).toArray:=by
 intro j hj
 have hj':s+j < xs.length:=by simp at hj;omega
 have hl:xs.length≤n:=by have:=congrArg List.length ht;rw [nums_len,List.length_take] at this;omega
 refine ⟨?_,by simp [World.frozen?,hb]⟩
 have h1:(cur.toList.take n)[s+j]? = (nums xs)[s+j]?:=by rw [ht]
 rw [List.getElem?_take_of_lt (by omega),nums_get hj'] at h1
 simp only [World.cell?,hb]
 simp only [Option.isSome_none,Bool.false_eq_true,if_false]
 rw [←Array.getElem?_toList,h1]
 rw [getElem!_pos _ j hj]
 simp
theorem take_put {cur:Array Value} {n s:Nat} {xs:List Int} {d':Array Int} (ht:cur.toList.take n=nums xs) (hl:xs.length=n) (hs:s≤n) (hd:d'.size=n - s) :
  (putCells e32 s d' cur).toList.take n=nums (xs.take s++d'.toList):=by
 have hc:n≤cur.size:=by have:=congrArg List.length ht;rw [nums_len,List.length_take,hl,Array.length_toList] at this;omega
 apply List.ext_getElem?
 intro k
 by_cases hk:k < n
 ·have h0:(cur.toList.take n)[k]? = (nums xs)[k]?:=by rw [ht]
  rw [List.getElem?_take_of_lt hk,nums_get (by omega),Array.getElem?_toList] at h0
  rw [List.getElem?_take_of_lt hk,Array.getElem?_toList]
  by_cases hks:k < s
  ·have hk2:k < (xs.take s++d'.toList).length:=by simp;omega
   rw [nums_get hk2,List.getElem_append_left (by rw [List.length_take];omega)]
   simp only [putCells,Array.getElem?_mapIdx,h0,Option.map_some]
   rw [if_neg (by omega)]
   simp
  ·have hk2:k < (xs.take s++d'.toList).length:=by simp;omega
   rw [nums_get hk2,List.getElem_append_right (by rw [List.length_take];omega)]
   simp only [putCells,Array.getElem?_mapIdx,h0,Option.map_some]
   rw [if_pos (by omega),getElem!_pos d' (k - s) (by omega)]
   have:min s xs.length=s:=by omega
   simp [List.length_take,this]
 ·rw [List.getElem?_take_eq_none (by omega),List.getElem?_eq_none (by rw [nums_len];simp;omega)]
theorem sw_heap {w W:World} {g s:Nat} {d':Array Int} {cur:Array Value} {e:TypeId} (h:SW e32 w g s d' W) (hb:w.heap[g]? = some (.cells cur e (0,0))):W.heap[g]? = some (.cells (putCells e32 s d' cur) e (0,0)):=by
 obtain ⟨n,os,rfl⟩:=h
 have hg:g < w.heap.size:=(Array.getElem?_eq_some_iff.1 hb).1
 unfold sortWorld
 rw [heap_grow_old _ _ (by simpa using hg)]
 simp [putRow,mapBlock,Sort.ahead,Array.getElem?_modify,hb,onCells]
theorem sw_grown {w W:World} {g s:Nat} {d':Array Int} (h:SW e32 w g s d' W):w.grownBy W (some g):=by
 obtain ⟨n,os,rfl⟩:=h
 unfold sortWorld
 refine ⟨rfl,rfl,rfl,by simp,fun k hk hne=>?_⟩
 rw [heap_grow_old _ _ (by simpa using hk)]
 have:g≠k:=fun e=>hne (by rw [e])
 simp [putRow,mapBlock,Sort.ahead,Array.getElem?_modify,this]
theorem laid_sw {w W:World} {g s:Nat} {d':Array Int} (hL:Laid w) (h:SW e32 w g s d' W) (hg:5 < g):Laid W:=by
 have hb:=sw_grown h
 have hw:=hL.size
 refine hL.below (B:=5+1) ⟨hb.os,hb.tape,hb.output,hb.size,fun k hk=>hb.block k (by omega) (fun e=>by injection e with e;omega)⟩ (by omega)
theorem told_of {w:World} {g s N:Nat} {d:Array Int} (hL:Laid w) (hH:Holds e32 w g s d) (hN:d.size=N) (hg:5 < g) (hgs:g < w.heap.size) (hsm:N≤1099511627776):Told cls cf 75 g s N d w :=
 ⟨⟨one32,hH,hgs⟩,hN,by omega,fun m os dk _ x y=>(order1_any x y _ (laid_sw hL ⟨m,os,rfl⟩ hg)).mono fun _ _ ⟨he,q,os',hw⟩=>⟨he,q,os',hw⟩,cf_lt,enters_of Tryd.func75 (by kernel_rfl) rfl⟩
theorem order_some (base g cap n s c N:Nat) (xs:List Int) (w:World) (hL:Laid w) (hown:w.ownsRow base 21 1 (.slice (some ⟨g,0,none⟩) n cap) n (nums xs)) (hs:s≤n) (hN:N=n - s) (hg:5 < base) (hsm:n≤1099511627776) :
  Calls Tryd.prog 56 #[.slice (some ⟨g,s,none⟩) N c] w fun e w'=>e=.returned (.tuple #[])∧w'.ownsRow base 21 1 (.slice (some ⟨g,0,none⟩) n cap) n (nums (xs.take s++ord (xs.drop s)))∧w.grownBy w' (some g):=by
 have hl0:=hown.1
 rw [nums_len,Nat.mul_one] at hl0
 rcases hown.2 with ⟨h0,_⟩ | ⟨g',cap',cur,hv,hbase,hh,h1,h2,h3,h4⟩
 ·cases h0
 cases hv
 rw [Nat.mul_one] at h4
 have hgs:g < w.heap.size:=(Array.getElem?_eq_some_iff.1 hh).1
 have hd:(xs.drop s).toArray.size=N:=by simp;omega
 have hH:=row_holds (s:=s) hh h4
 have T:=told_of hL hH hd (by omega) hgs (by omega)
 have HC:=Lib.hid (sortStable_any cls cf 75 g s c N _ _ w w T hd (SW.start hH) (by omega))
 have HE:=Lib.hid (fun (e:Ending) (w':World) (h:MgEnd cls g s 0 N (xs.drop s).toArray w e w')=>(show e=.returned (.tuple #[])∧w'.ownsRow base 21 1 (.slice (some ⟨g,0,none⟩) n cap) n (nums (xs.take s++ord (xs.drop s)))∧w.grownBy w' (some g) from by
  obtain ⟨he,d',hm,hw⟩:=h
  have hz:d'.size=N:=hm.1.size.trans hd
  have hm':d'.toList=ord (xs.drop s):=by
   have:=mg_ord (d:=(xs.drop s).toArray) (d':=d') (by rw [hd];exact hm)
   simpa using this
  refine ⟨he,⟨?_,.inr ⟨g,cap,_,rfl,hbase,sw_heap hw hh,h1,h2,by simp [putCells,h3],?_⟩⟩,sw_grown hw⟩
  ·rw [nums_len,List.length_append,ord_len,List.length_take,List.length_drop];omega
  ·rw [Nat.mul_one,take_put h4 hl0 hs (by omega),hm']))
 clear hL hown T hH hh h4 hd h3 hl0 hN
 go_enter Tryd.func56,Tryd.ntmps56
 go_wp2_with fail
 refine HC.out.mono ?_
 intro e w1 hm
 have he:=hm.1
 subst he
 have HM:=Lib.hid (HE.out _ _ hm).2
 clear hm
 go_wp2_with fail
 go_end0
 exact ⟨rfl,HM.out⟩
theorem ins_none (A:Option Addr) (c:Nat) (fv:Value) (w:World):Calls Tryd.prog 94 #[.slice A 0 c,.int .i64 0,.int .i64 0,fv] w fun e w'=>e=.returned (.tuple #[])∧w=w':=by
 go_enter Tryd.func94,Tryd.ntmps94
 go_wp2_with fail
 refine wp_loop_rounds 1 ?_
 rw [rounds_succ]
 go_wp2
 all_goals go_end0
 all_goals exact ⟨rfl,rfl⟩
theorem stable_none (A:Option Addr) (c:Nat) (fv:Value) (w:World):Calls Tryd.prog 85 #[.slice A 0 c,.int .i64 0,fv] w fun e w'=>e=.returned (.tuple #[])∧w=w':=by
 go_enter Tryd.func85,Tryd.ntmps85
 go_wp2_with fail
 refine wp_loop_rounds 1 ?_
 rw [rounds_succ]
 go_wp2_with (go_at_call 94;refine (ins_none _ _ _ _).mono ?_;rintro e w1 ⟨rfl,rfl⟩)
 refine wp_loop_rounds 1 ?_
 rw [rounds_succ]
 go_wp2
 all_goals go_end0
 all_goals exact ⟨rfl,rfl⟩
theorem order_none (A:Option Addr) (c:Nat) (w:World):Calls Tryd.prog 56 #[.slice A 0 c] w fun e w'=>e=.returned (.tuple #[])∧w=w':=by
 have hs:∀u:World,Calls Tryd.prog 74 #[.slice A 0 c,.func (.func 75) #[] #[]] u fun e w'=>e=.returned (.tuple #[])∧u=w':=fun u=>by
  go_enter Tryd.func74,Tryd.ntmps74
  go_wp2_with (go_at_call 85;refine (stable_none _ _ _ _).mono ?_;rintro e w1 ⟨rfl,rfl⟩)
  go_end0
  exact ⟨rfl,rfl⟩
 go_enter Tryd.func56,Tryd.ntmps56
 go_wp2_with (go_at_call 74;refine (hs _).mono ?_;rintro e w1 ⟨rfl,rfl⟩)
 go_end0
 exact ⟨rfl,rfl⟩
end Go.Proofs.YtdngaddggcmjgaaDoor.Norm
namespace Go.Proofs.YtdngaddggcmjgaaDoor.Norm
open Go.Shelf Go.RowKit Go.Sort Utf
open Ucd hiding grow same Told
structure Chg (w w':World) (S:Nat→Prop):Prop where
 os:w'.os=w.os
 tape:w'.tape=w.tape
 output:w'.output=w.output
 size:w.heap.size≤w'.heap.size
 block:∀k,k < w.heap.size→¬S k→w'.heap[k]? = w.heap[k]?
section
variable {w w' w'':World} {S T:Nat→Prop}
theorem Chg.refl (w:World) (S:Nat→Prop):Chg w w S:=⟨rfl,rfl,rfl,Nat.le_refl _,fun _ _ _=>rfl⟩
theorem Chg.trans (h:Chg w w' S) (k:Chg w' w'' T) (hT:∀i,i < w.heap.size→T i→S i):Chg w w'' S :=
 ⟨k.os.trans h.os,k.tape.trans h.tape,k.output.trans h.output,Nat.le_trans h.size k.size,fun i hi hs=>(k.block i (Nat.lt_of_lt_of_le hi h.size) fun ht=>hs (hT i hi ht)).trans (h.block i hi hs)⟩
theorem Chg.more (h:Chg w w' S) (hS:∀i,S i→T i):Chg w w' T:=⟨h.os,h.tape,h.output,h.size,fun i hi hn=>h.block i hi fun hs=>hn (hS i hs)⟩
theorem Chg.grown (h:Chg w w' S) {row:Option Nat} (hg:w'.grownBy w'' row) (hr:∀i,i < w.heap.size→row=some i→S i):Chg w w'' S :=
 h.trans (T:=fun i=>row=some i) ⟨hg.os,hg.tape,hg.output,hg.size,fun k hk hn=>hg.block k hk fun e=>hn e.symm⟩ hr
theorem Chg.setCell (h:Chg w w' S) {p:Addr} (u:Value) (hp:S p.block):Chg w (w'.setCell p u) S :=
 h.trans (T:=fun k=>k=p.block) ⟨rfl,rfl,rfl,by simp [World.setCell],fun k _ hk=>Below.heap_setCell _ _ _ _ hk⟩ fun i _ e=>e ▸ hp
theorem Chg.of_below {B:Nat} (hb:Below B w w') (hB:w.heap.size≤B):Chg w w' S:=⟨hb.os,hb.tape,hb.output,hb.size,fun k hk _=>hb.block k (by omega)⟩
theorem Chg.and_below (h:Chg w w' S) (hb:Below w'.heap.size w' w''):Chg w w'' S:=h.trans (T:=fun _=>False) (Chg.of_below hb (Nat.le_refl _)) fun _ _ h=>h.elim
theorem Chg.below {B:Nat} (h:Chg w w' S) (hB:B≤w.heap.size) (hS:∀i,i < B→¬S i):Below B w w':=⟨h.os,h.tape,h.output,h.size,fun k hk=>h.block k (by omega) (hS k hk)⟩
end
theorem own_keep {w w':World} {base:Nat} {e:TypeId} {size:Nat} {v:Value} {n:Nat} {xs:List Value} {S:Nat→Prop} (h:w.ownsRow base e size v n xs) (hg:Chg w w' S) (hne:∀k,v.ownBlock=some k→¬S k):w'.ownsRow base e size v n xs:=by
 have hl:=h.lt
 refine ⟨h.1,?_⟩
 rcases h.2 with h0 | ⟨g,cap,cur,rfl,h1,h2,h3,h4,h5,h6⟩
 ·exact .inl h0
 ·exact .inr ⟨g,cap,cur,rfl,h1,by rw [hg.block g (hl g rfl).2 (hne g rfl)];exact h2,h3,h4,h5,h6⟩
theorem blk_keep {w w':World} {g:Nat} {t:TypeId} {cs:List Value} {S:Nat→Prop} (h:Blk w g t cs) (hg:Chg w w' S) (hne:¬S g):Blk w' g t cs:=(hg.block g h.lt hne).trans h
theorem own_mono {w:World} {base base':Nat} {e:TypeId} {size:Nat} {v:Value} {n:Nat} {xs:List Value} (h:w.ownsRow base e size v n xs) (hb:base'≤base):w.ownsRow base' e size v n xs:=by
 refine ⟨h.1,?_⟩
 rcases h.2 with h0 | ⟨g,cap,cur,rfl,h1,h2⟩
 ·exact .inl h0
 ·exact .inr ⟨g,cap,cur,rfl,Nat.le_trans hb h1,h2⟩
theorem own_set {w:World} {base:Nat} {e:TypeId} {size:Nat} {v:Value} {n:Nat} {xs:List Value} (h:w.ownsRow base e size v n xs) {fb:Nat} (ha:v.ownBlock≠some fb) {o:Nat} (u:Value):(w.setCell ⟨fb,o,none⟩ u).ownsRow base e size v n xs :=
 own_keep (S:=fun k=>k=fb) h ((Chg.refl w _).setCell (p:=⟨fb,o,none⟩) u rfl) fun _ hk e=>ha (e ▸ hk)
theorem own_prefix {w:World} {base g n cap s:Nat} {xs:List Int} (h:w.ownsRow base 21 1 (.slice (some ⟨g,0,none⟩) n cap) n (nums xs)) (hs:s≤n):w.ownsRow base 21 1 (.slice (some ⟨g,0,none⟩) s cap) s (nums (xs.take s)):=by
 rcases h.2 with ⟨h0,_⟩ | ⟨g',cap',cur,hv,h1,h2,h3,h4,h5,h6⟩
 ·cases h0
 cases hv
 have hl:=h.1
 rw [nums_len] at hl
 refine ⟨by rw [nums_len,List.length_take];omega,.inr ⟨g,cap,cur,rfl,h1,h2,by omega,h4,h5,?_⟩⟩
 rw [←nums_take',←h6,List.take_take]
 congr 1
 omega
where
 nums_take' (l:List Int) (k:Nat):(nums l).take k=nums (l.take k):=List.map_take.symm
structure Fm (w:World) (base fb:Nat) (v:Value) (K:List Int) (cl:Bool):Prop where
 blk:Blk w fb 88 [v,.bool cl]
 own:w.ownsRow base 21 1 v K.length (nums K)
 le:base≤fb
theorem Fm.ne {w:World} {base fb:Nat} {v:Value} {K:List Int} {cl:Bool} (h:Fm w base fb v K cl):v.ownBlock≠some fb:=own_ne h.own h.blk (by decide)
def Its (fb:Nat) (v:Value) (k:Nat):Prop:=k=fb∨v.ownBlock=some k
theorem Fm.its {w:World} {base fb:Nat} {v:Value} {K:List Int} {cl:Bool} (h:Fm w base fb v K cl) {k:Nat} (hk:k < base):¬Its fb v k:=fun hi=>by
 rcases hi with rfl | hi
 ·have:=h.le;omega
 ·have:=(h.own.lt k hi).1;omega
theorem starter_any (x:Int) (w:World) (hL:Laid w):Calls Tryd.prog 55 #[.int .i32 x] w (Ret w (.bool (cls x == 0))):=by
 have HC:=Lib.hid (class_any x w hL)
 clear hL
 go_enter Tryd.func55,Tryd.ntmps55
 go_wp2_with fail
 refine HC.out.mono ?_
 rintro e w1 ⟨rfl,hb⟩
 have HB:=Lib.hid hb
 clear hb
 go_wp2_with fail
 go_ret
 exact ⟨rfl,HB.out⟩
theorem new_any (w:World):Calls Tryd.prog 37 #[] w fun e w'=>e=.returned (.pointer (some ⟨w.heap.size,0,none⟩))∧w'=w.alloc (.cells #[.slice none 0 0,.bool false] 88):=by
 go_enter Tryd.func37,Tryd.ntmps37
 go_wp2
 go_ret
 exact ⟨rfl,rfl⟩
theorem new_fm (w:World) (base:Nat) (hb:base≤w.heap.size):Fm (w.alloc (.cells #[.slice none 0 0,.bool false] 88)) base w.heap.size (.slice none 0 0) [] false :=
 ⟨Blk.new w _ [.slice none 0 0,.bool false],World.ownsRow_nil _ _ _ _,hb⟩
end Go.Proofs.YtdngaddggcmjgaaDoor.Norm
namespace Go.Proofs.YtdngaddggcmjgaaDoor.Norm
open Go.Shelf Go.RowKit Go.Sort Utf
open Ucd hiding grow same Told
structure Fs (w0 w:World) (v0:Value) (base:Nat) (F:List Int) (vf:Value):Prop where
 own:w.ownsRow base 21 1 vf F.length (nums F)
 org:∀g,vf.ownBlock=some g→w0.heap.size≤g∨v0.ownBlock=some g
 chg:Chg w0 w fun k=>v0.ownBlock=some k
theorem Fs.below {w0 w w':World} {v0 vf:Value} {base:Nat} {F:List Int} (h:Fs w0 w v0 base F vf) (hb:Below w.heap.size w w'):Fs w0 w' v0 base F vf :=
 ⟨own_below h.own hb,h.org,h.chg.and_below hb⟩
theorem Fs.grown {w0 w w':World} {v0 vf vf':Value} {base:Nat} {F F':List Int} (h:Fs w0 w v0 base F vf) (ho:w'.ownsRow base 21 1 vf' F'.length (nums F')) (hg:w.grownBy w' vf.ownBlock)
  (hv:vf'.ownBlock=vf.ownBlock∨vf'.ownBlock=some w.heap.size):Fs w0 w' v0 base F' vf' :=
 ⟨ho,fun g hg'=>by
  rcases hv with e | e
  ·exact h.org g (e ▸ hg')
  ·rw [e] at hg';injection hg' with hg';left;rw [←hg'];exact h.chg.size,h.chg.grown hg fun i hi hr=>by
  rcases h.org i hr with h | h
  ·omega
  ·exact h⟩
theorem told_pend_len (m D:List Int):(told m D).length+(pend m D).length=m.length+D.length:=by
 have:=nfm_len D m
 rw [nfm,List.length_append,ord_len] at this
 exact this
theorem full_three (r:Int):(fullF r).length≤3:=(bottom_parts r).2.1
theorem fulls_len:∀l:List Int,(fulls l).length≤3*l.length
 | []=>by simp [fulls]
 | r :: t=>by rw [fulls_cons,List.length_append,List.length_cons];have:=full_three r;have:=fulls_len t;omega
theorem told_start (K D:List Int) {x:Int} (h:cls x=0):told K (D++[x])=told K D++ord (pend K D)++[x]∧pend K (D++[x])=[]:=by
 rw [told_append,pend_append]
 simp [told,pend,h]
theorem told_mark (K D:List Int) {x:Int} (h:cls x≠0):told K (D++[x])=told K D∧pend K (D++[x])=pend K D++[x]:=by
 rw [told_append,pend_append]
 simp [told,pend,h]
theorem cut_from {w:World} {base f cf t:Nat} {Af:Option Addr} {F:List Int} (hown:w.ownsRow base 21 1 (.slice Af f cf) f (nums F)) (ht:t≤f) :
  ∃A' c',(∀u:World,(Instr.slice 35 (.slice Af f cf) (some (.int .i64 t)) none none).run Tryd.prog u=.ok (.slice A' (f - t) c') u)∧(t < f→∃g,Af=some ⟨g,0,none⟩∧A'=some ⟨g,t,none⟩)∧Rd w w.heap.size A' (nums (F.drop t))∧f - t≤c':=by
 have hl:=hown.1
 rw [nums_len,Nat.mul_one] at hl
 have hru:∀u:World,(Instr.slice 35 (.slice Af f cf) (some (.int .i64 t)) none none).run Tryd.prog u=.ok (.slice (if cf=t then Af else Af.map (·.add (t*1))) (f - t) (cf - t)) u:=fun u=>by
  have he:Tryd.prog.elem 35=21:=by simp [Program.elem,Tryd.underlying35]
  rw [run_slice_l u 35 Af f cf (by rw [he];exact Tryd.underlying35) .i64 (t:Int) (by omega) (by omega),he,Tryd.sizeOf21]
  simp [Result.andThen,sliced]
 refine ⟨_,_,hru,?_⟩
 rcases hown.2 with ⟨h0,_⟩ | ⟨g,cap,cur,hv,h1,h2,h3,h4,h5,h6⟩
 ·cases h0
  obtain rfl:t=0:=by omega
  have:F=[]:=List.eq_nil_of_length_eq_zero hl
  subst this
  exact ⟨fun h=>by omega,Rd.empty _ _ _,by omega⟩
 ·cases hv
  have hadd:(⟨g,0,none⟩:Addr).add (t*1)=⟨g,t,none⟩:=by unfold Addr.add;split <;> simp_all
  refine ⟨fun h=>⟨g,rfl,by rw [if_neg (by omega),Option.map_some,hadd]⟩,fun hne=>?_,by omega⟩
  have htf:t < f:=by
   rcases Nat.lt_or_ge t f with h | h
   ·exact h
   ·exact absurd (by rw [List.drop_of_length_le (by omega)];rfl) hne
  rw [if_neg (by omega),Option.map_some,hadd]
  refine ⟨g,t,rfl,(hown.lt g rfl).2,fun j u hu=>?_⟩
  have:=hown.cells (g:=g) rfl (t+j) u (by rw [←hu];simp [nums])
  have hadd2:(⟨g,0,none⟩:Addr).add (t+j)=⟨g,t+j,none⟩:=by unfold Addr.add;split <;> simp_all
  rwa [hadd2] at this
theorem cut_to {w:World} {base f cf t:Nat} {Af:Option Addr} {F:List Int} (hown:w.ownsRow base 21 1 (.slice Af f cf) f (nums F)) (ht:t≤f) (h0:0 < t) :
  ∃g,Af=some ⟨g,0,none⟩∧(∀u:World,(Instr.slice 35 (.slice (some ⟨g,0,none⟩) f cf) none (some (.int .i64 t)) none).run Tryd.prog u=.ok (.slice (some ⟨g,0,none⟩) t cf) u):=by
 rcases hown.2 with ⟨h0',h1⟩ | ⟨g,cap,cur,hv,h1,h2,h3,h4,h5,h6⟩
 ·omega
 ·cases hv
  refine ⟨g,rfl,fun u=>?_⟩
  have he:Tryd.prog.elem 35=21:=by simp [Program.elem,Tryd.underlying35]
  rw [run_slice_h u 35 (some ⟨g,0,none⟩) f cf (by rw [he];exact Tryd.underlying35) .i64 (t:Int) (by omega) (by omega),he,Tryd.sizeOf21]
  have hadd:(⟨g,0,none⟩:Addr).add 0=⟨g,0,none⟩:=by unfold Addr.add;split <;> simp_all
  have hcf:¬cf=0:=by omega
  simp [Result.andThen,sliced,hadd]
theorem order_from {w:World} {base f cf t c':Nat} {Af A':Option Addr} {F:List Int} (hown:w.ownsRow base 21 1 (.slice Af f cf) f (nums F)) (ht:t≤f) (hA:t < f→∃g,Af=some ⟨g,0,none⟩∧A'=some ⟨g,t,none⟩)
  (hL:Laid w) (hg:5 < base) (hsm:f≤1099511627776) :
  Calls Tryd.prog 56 #[.slice A' (f - t) c'] w fun e w'=>e=.returned (.tuple #[])∧w'.ownsRow base 21 1 (.slice Af f cf) f (nums (F.take t++ord (F.drop t)))∧w.grownBy w' (Value.slice Af f cf).ownBlock:=by
 have hl:=hown.1
 rw [nums_len,Nat.mul_one] at hl
 rcases Nat.lt_or_ge t f with h | h
 ·obtain ⟨g,rfl,rfl⟩:=hA h
  exact order_some base g cf f t c' (f - t) F w hL hown ht rfl hg hsm
 ·have e:f - t=0:=by omega
  rw [e]
  refine (order_none A' c' w).mono fun e w' h=>?_
  obtain ⟨he,rfl⟩:=h
  refine ⟨he,?_,World.grownBy.refl _ _⟩
  rw [List.drop_of_length_le (by omega),List.take_of_length_le (by omega),ord_nil,List.append_nil]
  exact hown
set_option maxHeartbeats 8000000 in
set_option maxRecDepth 100000 in
theorem write_any (base fb:Nat) (v:Value) (K l:List Int) (A:Option Addr) (n c:Nat) (w:World) (hL:Laid w) (hF:Fm w base fb v K false) (hK:Marks K) (hr:Rd w w.heap.size A (nums l)) (hd:∀b o,A=some ⟨b,o,none⟩→v.ownBlock≠some b) (hn:l.length=n)
  (hb:base≤w.heap.size) (hg:5 < base) (hsm:K.length+3*n≤137438953472) :
  Calls Tryd.prog 38 #[.pointer (some ⟨fb,0,none⟩),.slice A n c] w fun e w'=>∃v2 v3,e=.returned v2∧Fm w' base fb v3 (pend K (fulls l)) false ∧
   w'.ownsRow base 21 1 v2 (told K (fulls l)).length (nums (told K (fulls l)))∧Chg w w' (Its fb v)∧v2.ownBlock≠some fb ∧
   (∀g,v2.ownBlock=some g→v3.ownBlock≠some g∧(w.heap.size≤g∨v.ownBlock=some g))∧(∀g,v3.ownBlock=some g→w.heap.size≤g∨v.ownBlock=some g):=by
 obtain ⟨i0,hi,hz0,hz1,hz2⟩:=info_parts infoI32
 obtain ⟨A0,ca,rfl,ha1,ha2,_⟩:=own_form hF.own
 have c0:=hF.blk.cell 0
 have c1:=hF.blk.cell 1
 simp only [List.getElem?_cons_succ,List.getElem?_cons_zero] at c0 c1
 have HL:=Lib.hid hL
 have HF:=Lib.hid hF
 have HK:=Lib.hid hK
 have HR:=Lib.hid hr
 have HD0:=Lib.hid hd
 have HN:=Lib.hid hn
 obtain ⟨nk,hnk⟩:∃nk,nk=K.length:=⟨_,rfl⟩
 have HNK:=Lib.hid hnk
 have HSM:=Lib.hid hsm
 rw [←hnk] at c0 ha1 HF
 rw [←hnk] at HD0
 clear hL hF hK hr hn hnk hsm hd
 go_enter Tryd.func38,Tryd.ntmps38
 go_wp2_with fail
 clear c0 c1
 obtain ⟨v0,hv0⟩:∃v0:Value,v0=.slice A0 nk ca:=⟨_,rfl⟩
 rw [←hv0] at HF HD0
 have HV0:=Lib.hid hv0
 go_loopw [5,6,25] (fun vf vs i wr=>∃k s:Nat,k≤n∧i=.int .i64 k∧vs=.int .i64 s∧s≤1099511627776∧Hid (s=(told K (fulls (l.take k))).length)∧Hid (Fs w wr v0 base (told K (fulls (l.take k))++pend K (fulls (l.take k))) vf)) (fun _ _ i _=>n - (intOf i).toNat)
 case atStart=>exact ⟨0,0,Nat.zero_le _,rfl,rfl,by omega,Lib.hid (by simp [fulls,told]),Lib.hid (by simp only [List.take_zero,fulls,List.flatMap_nil,told,pend,List.nil_append];exact ⟨by rw [←hv0];exact HF.out.own,fun g h=>.inr (by rw [hv0];exact h),Chg.refl _ _⟩)⟩
 case round =>
  obtain ⟨k,s,hk,rfl,rfl,hs,HS,H⟩:=hrel
  by_cases hlt:k < n
  ·obtain ⟨kq,hkq⟩:∃q,q+k+1=n:=⟨n - k - 1,by omega⟩
   have HKN:=Lib.hid hkq
   clear hkq
   have hkl:k < l.length:=by rw [HN.out];exact hlt
   obtain ⟨b,o,rfl,hbl⟩:=HR.out.form (by rw [nums_len];omega)
   have hcell:wr.cell? ⟨b,o+k,none⟩=some (.int .i32 l[k]):=(World.cell?_of_block (a:=⟨b,o+k,none⟩) (H.out.chg.block b hbl (HD0.out b o rfl))).trans (HR.out.num hkl)
   have HTK:=Lib.hid (show fulls (l.take (k+1))=fulls (l.take k)++fullF l[k] by rw [List.take_succ_eq_append_getElem hkl,fulls_append,fulls_cons];simp [fulls])
   have h3:=full_three l[k]
   have h1:=full_some l[k]
   have HLr:=Lib.hid (HL.out.below (H.out.chg.below (B:=base) hb (fun i hi hv=>by have:=(HF.out.own.lt i hv).1;omega)) hg)
   have HC:=Lib.hid (decompose_any l[k] wr HLr.out)
   have HDL:=Lib.hid (show (fulls (l.take k)).length≤3*k by have:=fulls_len (l.take k);rw [List.length_take] at this;omega)
   obtain ⟨D,hD⟩:∃D,D=fulls (l.take k):=⟨_,rfl⟩
   rw [←hD] at HS H HTK HDL
   generalize l[k]=r at hcell HTK h3 h1 HC
   generalize fullF r=xs at HTK h3 h1 HC
   clear hkl hD
   go_wp2_with fail
   refine HC.out.mono ?_
   rintro e w1 ⟨vd,rfl,hown,hb1⟩
   have H1:=Lib.hid (H.out.below hb1)
   obtain ⟨gd,cd,rfl,hgd1,hgd2⟩:=hown.form h1
   obtain ⟨m,hm⟩:∃m,m=xs.length:=⟨_,rfl⟩
   rw [←hm] at h1 h3 hown ⊢
   have HO:=Lib.hid hown
   have HM:=Lib.hid hm
   obtain ⟨bd,hbd⟩:∃bd,bd=wr.heap.size:=⟨_,rfl⟩
   rw [←hbd] at HO
   have HBD:=Lib.hid (show bd≤w1.heap.size by rw [hbd];exact hb1.size)
   have HAP:=Lib.hid (fun (g:Nat) (hv:u5.ownBlock=some g)=>show gd≠g from by have:=(H.out.own.lt g hv).2;omega)
   have HL1:=Lib.hid (HLr.out.next hb1)
   have HSZ:=Lib.hid hgd1
   clear hown hm hb1 HC H HLr hgd1 hgd2 hbd
   have hbw1:base≤w1.heap.size:=Nat.le_trans hb H1.out.chg.size
   go_wp2_with fail
   go_loopw [5,6,32] (fun vf vs i wx=>∃j t:Nat,j≤m∧i=.int .i64 j∧vs=.int .i64 t∧t≤1099511627776∧Hid (t=(told K (D++xs.take j)).length)∧Hid (Fs w wx v0 base (told K (D++xs.take j)++pend K (D++xs.take j)) vf)∧Hid (wx.ownsRow bd 21 1 (.slice (some ⟨gd,0,none⟩) m cd) m (nums xs))∧Hid (∀g,vf.ownBlock=some g→gd≠g)) (fun _ _ i _=>m - (intOf i).toNat)
   case atStart=>exact ⟨0,s,Nat.zero_le _,rfl,rfl,hs,by simpa using HS,by simpa using H1,HO,HAP⟩
   case round =>
    clear HO HAP H1 HL1 HS
    obtain ⟨j,t,hj,rfl,rfl,ht,HT,HI,HD2,HA2⟩:=hrel
    by_cases hjt:j < m
    ·have hjl:j < xs.length:=by rw [←HM.out];exact hjt
     have hcell:wr.cell? ⟨gd,j,none⟩=some (.int .i32 xs[j]):=(HD2.out.cellAt j (by omega)).trans (nums_get hjl)
     have HTK2:=Lib.hid (show xs.take (j+1)=xs.take j++[xs[j]] from List.take_succ_eq_append_getElem hjl)
     have HLj:=Lib.hid (HL.out.below (HI.out.chg.below (B:=base) hb (fun i hi hv=>by have:=(HF.out.own.lt i hv).1;omega)) hg)
     generalize xs[j]=x at hcell HTK2
     have HST:=Lib.hid (starter_any x wr HLj.out)
     clear hjl
     by_cases hx:cls x=0
     ·have hxb:(cls x == 0)=true:=by simp [hx]
      rw [hxb] at HST
      have HX:=Lib.hid hx
      clear hx hxb
      obtain ⟨Af,cf0,rfl,hfc,hfm,_⟩:=own_form HI.out.own
      have hlen:(told K (D++xs.take j)++pend K (D++xs.take j)).length=(told K (D++xs.take j)).length+(pend K (D++xs.take j)).length:=List.length_append
      obtain ⟨F,hF⟩:∃F,F=told K (D++xs.take j)++pend K (D++xs.take j):=⟨_,rfl⟩
      rw [←hF] at HI hfc hlen HA2 ⊢
      obtain ⟨f,hf⟩:∃f,f=F.length:=⟨_,rfl⟩
      rw [←hf] at HI hfc hlen HA2 ⊢
      have htf:t≤f:=by have:=HT.out;omega
      have HFE:=Lib.hid hF
      have HFL:=Lib.hid hf
      have HFO:=Lib.hid HI.out.own
      rw [←hf] at HFO
      obtain ⟨A',c',hsl,hA',_⟩:=cut_from HFO.out htf
      have HAA:=Lib.hid hA'
      clear hA' hlen hF hf
      go_wp2_with fail
      refine HST.out.mono ?_
      rintro e w2 ⟨rfl,hb2⟩
      have H2:=Lib.hid (HI.below hb2)
      have HL2:=Lib.hid (HLj.out.next hb2)
      have HD3:=Lib.hid (own_below HD2.out hb2)
      have HO2:=Lib.hid (own_below HFO.out hb2)
      have hfb:f≤1099511627776:=by have:=told_pend_len K (D++xs.take j);have:=HFL.out;rw [HFE.out] at this;have:=HSM.out;have:=HDL.out;simp only [List.length_append,List.length_take] at *;omega
      clear hb2 HI HD2 HFO HLj HST
      go_wp2_with fail
      refine (order_from HO2.out htf HAA.out HL2.out hg hfb).mono ?_
      rintro e w3 ⟨rfl,hown3,hgr3⟩
      have hF3:F.take t++ord (F.drop t)=told K (D++xs.take j)++ord (pend K (D++xs.take j)):=by
       rw [HFE.out,HT.out,List.take_left,List.drop_left]
      rw [hF3] at hown3
      obtain ⟨G,hG⟩:∃G,G=told K (D++xs.take j)++ord (pend K (D++xs.take j)):=⟨_,rfl⟩
      rw [←hG] at hown3
      have hGl:G.length=f:=by rw [hG,HFL.out,HFE.out,List.length_append,List.length_append,ord_len]
      have H3:=Lib.hid (H2.out.grown (vf':=.slice Af f cf0) (F':=G) (by rw [hGl];exact hown3) hgr3 (.inl rfl))
      have HD4:=Lib.hid (HD3.out.kept hgr3 (.inr fun e=>HA2.out gd e.symm rfl))
      have HO3:=Lib.hid hown3
      have HG:=Lib.hid hG
      have HGL:=Lib.hid hGl
      have hb3:base≤w3.heap.size:=Nat.le_trans hb H3.out.chg.size
      clear hown3 hgr3 hF3 hG hGl HO2 HD3 H2 HL2
      go_wp2_with (at_builtin;refine wpList_append_rd _ rfl (.tmp 45) (.tmp 47) _ rfl base 21 i0 _ 1 4 Tryd.underlying35 hi hz0 hz1 hz2 rfl (by decide) (.slice Af f cf0) f (nums G) rfl (HO3.out.alloc _) _ (some ⟨w3.heap.size,0,none⟩) 1 1 [.int .i32 x] rfl rfl (rd_new _ _ [.int .i32 x] _ rfl) (nums_one [x]) (by unfold maxLen;omega) (by omega) (by simp;omega) ?_;intro v6 w6 hown6 hgr6 hat6)
      have HT4:=Lib.hid (show told K (D++xs.take (j+1))++pend K (D++xs.take (j+1))=G++[x]∧f+1=(told K (D++xs.take (j+1))).length by
       obtain ⟨e1,e2⟩:=told_start K (D++xs.take j) HX.out
       rw [HTK2.out,←List.append_assoc,e1,e2,HG.out,List.append_nil]
       exact ⟨rfl,by rw [List.length_append,←HG.out,HGL.out];rfl⟩)
      have H6:=Lib.hid ((H3.out.below ((Below.refl _ _).alloc (Nat.le_refl _) (.cells [Value.int .i32 x].toArray 21))).grown (vf':=v6) (F':=G++[x]) (by rw [List.length_append,HGL.out,nums_append];exact hown6) hgr6 hat6)
      rw [←HT4.out.1] at H6
      have HD6:=Lib.hid ((HD4.out.alloc (.cells [Value.int .i32 x].toArray 21)).kept hgr6 (.inr fun e=>HA2.out gd e.symm rfl))
      have HA6:=Lib.hid (show ∀g,v6.ownBlock=some g→gd≠g from fun g hg'=>by
       rcases hat6 with e | e
       ·exact HA2.out g (e ▸ hg')
       ·rw [e] at hg';injection hg' with hg';have:=(HD4.out.lt gd rfl).2;simp at hg';omega)
      have hf1:f+1≤1099511627776:=by have:=HD4.out;have:=hfb;have h:=HSM.out;have:=told_pend_len K (D++xs.take (j+1));rw [←HT4.out.2] at this;have:=HDL.out;simp only [List.length_append,List.length_take] at *;omega
      have HT5:=Lib.hid HT4.out.2
      clear hown6 hgr6 hat6 HT4 H3 HD4 HO3
      go_roundw
      case rel=>exact ⟨j+1,f+1,by omega,by go_num,by go_num,hf1,HT5,H6,HD6,HA6⟩
      case measure=>simp [intOf];omega
     ·have hxb:(cls x == 0)=false:=by simpa using hx
      rw [hxb] at HST
      have HX:=Lib.hid hx
      clear hx hxb
      obtain ⟨F,hF⟩:∃F,F=told K (D++xs.take j)++pend K (D++xs.take j):=⟨_,rfl⟩
      rw [←hF] at HI
      have hfb:F.length≤1099511627776:=by have:=told_pend_len K (D++xs.take j);rw [hF,List.length_append];have:=HSM.out;have:=HDL.out;simp only [List.length_append,List.length_take] at *;omega
      have HFE:=Lib.hid hF
      have HFB:=Lib.hid hfb
      clear hF hfb
      go_wp2_with (first | (go_at_call 55;refine HST.out.mono ?_;rintro e w2 ⟨rfl,hb2⟩;have H2:=Lib.hid (HI.below hb2);have HD3:=Lib.hid (own_below HD2.out hb2);have hb3:base≤w2.heap.size:=Nat.le_trans hb H2.out.chg.size;clear hb2) | (at_builtin;refine wpList_append_rd _ rfl (.tmp 45) (.tmp 47) _ rfl base 21 i0 _ 1 4 Tryd.underlying35 hi hz0 hz1 hz2 rfl (by decide) u5 F.length (nums F) rfl (H2.out.own.alloc _) _ (some ⟨w2.heap.size,0,none⟩) 1 1 [.int .i32 x] rfl rfl (rd_new _ _ [.int .i32 x] _ rfl) (nums_one [x]) (by have:=HFB.out;unfold maxLen;omega) (by have:=HFB.out;omega) (by simp;omega) ?_;intro v6 w6 hown6 hgr6 hat6))
      have HT4:=Lib.hid (show told K (D++xs.take (j+1))++pend K (D++xs.take (j+1))=F++[x]∧t=(told K (D++xs.take (j+1))).length by
       obtain ⟨e1,e2⟩:=told_mark K (D++xs.take j) HX.out
       rw [HTK2.out,←List.append_assoc,e1,e2,HFE.out,List.append_assoc]
       exact ⟨rfl,HT.out⟩)
      have H6:=Lib.hid ((H2.out.below ((Below.refl _ _).alloc (Nat.le_refl _) (.cells [Value.int .i32 x].toArray 21))).grown (vf':=v6) (F':=F++[x]) (by rw [List.length_append,nums_append];exact hown6) hgr6 hat6)
      rw [←HT4.out.1] at H6
      have HD6:=Lib.hid ((HD3.out.alloc (.cells [Value.int .i32 x].toArray 21)).kept hgr6 (.inr fun e=>HA2.out gd e.symm rfl))
      have HA6:=Lib.hid (show ∀g,v6.ownBlock=some g→gd≠g from fun g hg'=>by
       rcases hat6 with e | e
       ·exact HA2.out g (e ▸ hg')
       ·rw [e] at hg';injection hg' with hg';have:=(HD3.out.lt gd rfl).2;simp at hg';omega)
      have HT5:=Lib.hid HT4.out.2
      clear hown6 hgr6 hat6 HT4 H2 HD3 HI HD2 HST HLj
      go_roundw
      case rel=>exact ⟨j+1,t,by omega,by go_num,rfl,ht,HT5,H6,HD6,HA6⟩
      case measure=>simp [intOf];omega
    ·obtain rfl:j=m:=by omega
     have HXT:=Lib.hid (show xs.take j=xs by rw [HM.out];exact List.take_length)
     rw [HXT.out,←HTK.out] at HT HI
     clear HD2 HA2 HXT HTK
     have hkb:k+1≤274877906944:=by have:=HKN.out;have:=HSM.out;omega
     go_wp2_with fail
     go_roundw
     case rel=>exact ⟨k+1,t,by have:=HKN.out;omega,by go_num,rfl,ht,HT,HI⟩
     case measure=>have:=HKN.out;simp [intOf];omega
  ·obtain rfl:k=n:=by omega
   have HLT:=Lib.hid (show l.take k=l by rw [←HN.out];exact List.take_length)
   rw [HLT.out] at HS H
   have hfbk:Blk wr fb 88 [v0,.bool false]:=blk_keep HF.out.blk H.out.chg (fun e=>HF.out.ne e)
   have c0:=hfbk.cell 0
   have f0:=hfbk.frozen 0
   simp only [List.getElem?_cons_zero] at c0
   obtain ⟨Af,cf0,rfl,hfc,hfm,_⟩:=own_form H.out.own
   obtain ⟨F,hF⟩:∃F,F=told K (fulls l)++pend K (fulls l):=⟨_,rfl⟩
   rw [←hF] at H hfc ⊢
   have hlen:F.length=(told K (fulls l)).length+(pend K (fulls l)).length:=by rw [hF,List.length_append]
   have htl:=told_pend_len K (fulls l)
   have hfl:=fulls_len l
   rw [HN.out] at hfl
   have hfb:F.length≤1099511627776:=by have:=HSM.out;omega
   obtain ⟨f,hf⟩:∃f,f=F.length:=⟨_,rfl⟩
   rw [←hf] at H hfc hlen hfb ⊢
   have hsf:s≤f:=by have:=HS.out;omega
   have HOW:=Lib.hid H.out.own
   rw [←hf] at HOW
   have HFE:=Lib.hid hF
   have HBK:=Lib.hid hfbk
   have HLEN:=Lib.hid hlen
   clear hF hf hlen htl hfl HLT hfbk HN
   by_cases hs0:s=0
   ·subst hs0
    go_wp2_with fail
    go_ret
    have hT0:told K (fulls l)=[]:=List.eq_nil_of_length_eq_zero HS.out.symm
    have hFp:F=pend K (fulls l):=by rw [HFE.out,hT0,List.nil_append]
    have hne:(Value.slice Af f cf0).ownBlock≠some fb:=own_ne HOW.out HBK.out (by decide)
    have hfp:f=(pend K (fulls l)).length:=by rw [HLEN.out,hT0];simp
    refine ⟨.slice none 0 0,.slice Af f cf0,rfl,⟨HBK.out.set_ 0 _,?_,HF.out.le⟩,?_,?_,by simp [Value.ownBlock],fun g h=>by simp [Value.ownBlock] at h,fun g h=>?_⟩
    ·rw [←hfp,←hFp];exact own_set HOW.out hne _
    ·rw [hT0];exact World.ownsRow_nil _ _ _ _
    ·have hc:=(H.out.chg.more (T:=Its fb v0) fun i hi=>.inr hi).setCell (p:=⟨fb,0,none⟩) (.slice Af f cf0) (.inl rfl)
     rw [HV0.out,HNK.out] at hc
     exact hc
    ·have:=H.out.org g h
     rw [HV0.out,HNK.out] at this
     exact this
   ·have hsp:0 < s:=by omega
    have hss:((s:Int) == 0)=false:=by simp;omega
    obtain ⟨A',c',hsl,_,hrd,hc'⟩:=cut_from HOW.out hsf
    have hdr:F.drop s=pend K (fulls l):=by rw [HFE.out,HS.out,List.drop_left]
    have htk:F.take s=told K (fulls l):=by rw [HFE.out,HS.out,List.take_left]
    rw [hdr] at hrd
    obtain ⟨gf,rfl,hsl2⟩:=cut_to HOW.out hsf hsp
    obtain ⟨P,hP⟩:∃P,P=pend K (fulls l):=⟨_,rfl⟩
    rw [←hP] at hrd
    have hpl:P.length=f - s:=by rw [hP,HLEN.out,HS.out];omega
    have HPL:=Lib.hid hpl
    have HP:=Lib.hid hP
    have HTK:=Lib.hid htk
    have HTS:=Lib.hid (show s=(F.take s).length by rw [htk];exact HS.out)
    have HRD:=Lib.hid hrd
    have hbw:base≤wr.heap.size:=Nat.le_trans hb H.out.chg.size
    have hslp:((f - s:Nat))≤1099511627776:=by omega
    clear hdr htk hP hpl hrd hs0 c0 f0
    go_wp2_with (at_builtin;refine wpList_append_rd _ rfl (.const (.slice none 0 0)) (.tmp 60) _ rfl base 21 i0 _ 1 4 Tryd.underlying35 hi hz0 hz1 hz2 rfl (by decide) (.slice none 0 0) 0 [] rfl (World.ownsRow_nil _ _ _ _) _ A' (f - s) c' (nums P) rfl (by rw [nums_len,HPL.out];omega) HRD.out (nums_one P) (by unfold maxLen;omega) (by omega) (by omega) ?_;intro v6 w6 hown6 hgr6 hat6;obtain ⟨A6,c6,hv6,_⟩:=own_form hown6;subst hv6;have HB6:=Lib.hid (HBK.out.grown (row:=none) hgr6 (by simp));have c0:=HB6.out.cell 0;have f0:=HB6.out.frozen 0;simp only [List.getElem?_cons_zero] at c0;have HO6:=Lib.hid hown6;have HG6:=Lib.hid hgr6;have HA6:=Lib.hid hat6;clear hown6 hgr6 hat6)
    go_ret
    have hne6:(Value.slice A6 (0+(f - s)) c6).ownBlock≠some fb:=own_ne HO6.out HB6.out (by decide)
    have hnf:(Value.slice (some ⟨gf,0,none⟩) f cf0).ownBlock≠some fb:=own_ne HOW.out HBK.out (by decide)
    have hlt6:∀g,(Value.slice A6 (0+(f - s)) c6).ownBlock=some g→wr.heap.size≤g:=fun g h=>by
     rcases HA6.out with e | e
     ·rw [e] at h;simp [Value.ownBlock] at h
     ·rw [e] at h;injection h with h;omega
    have hgl:=(HOW.out.lt gf rfl).2
    have hO6:=HO6.out
    have hP0:P.length=f - s:=HPL.out
    rw [Nat.zero_add] at hO6 hne6 hlt6
    refine ⟨.slice (some ⟨gf,0,none⟩) s cf0,.slice A6 (f - s) c6,rfl,⟨HB6.out.set_ 0 _,?_,HF.out.le⟩,?_,?_,hnf,fun g h=>⟨fun h6=>?_,?_⟩,fun g h=>?_⟩
    ·rw [←HP.out,hP0]
     exact own_set (by simpa using hO6) hne6 _
    ·rw [←HTK.out,←HTS.out]
     exact own_set (own_prefix (HOW.out.kept HG6.out (.inr (by simp [Value.ownBlock]))) hsf) hnf _
    ·have hc:=((H.out.chg.more (T:=Its fb v0) fun i hi=>.inr hi).grown HG6.out (fun i _ h=>by cases h)).setCell (p:=⟨fb,0,none⟩) (.slice A6 (f - s) c6) (.inl rfl)
     rw [HV0.out,HNK.out] at hc
     exact hc
    ·have h1:=hlt6 g h6
     have h2:gf=g:=by simpa [Value.ownBlock] using h
     omega
    ·have:=H.out.org g h
     rw [HV0.out,HNK.out] at this
     exact this
    ·left;exact Nat.le_trans H.out.chg.size (hlt6 g h)
end Go.Proofs.YtdngaddggcmjgaaDoor.Norm
namespace Go.Proofs.YtdngaddggcmjgaaDoor.Norm
open Go.Shelf Go.RowKit Go.Sort Utf
open Ucd hiding grow same Told
set_option maxHeartbeats 4000000 in
theorem close_any (base fb:Nat) (v:Value) (K:List Int) (cl:Bool) (w:World) (hL:Laid w) (hF:Fm w base fb v K cl) (hb:base≤w.heap.size) (hg:5 < base) (hsm:K.length≤1099511627776) :
  Calls Tryd.prog 39 #[.pointer (some ⟨fb,0,none⟩)] w fun e w'=>e=.returned v∧w'.ownsRow base 21 1 v K.length (nums (ord K))∧Fm w' base fb (.slice none 0 0) [] true∧Chg w w' (Its fb v):=by
 obtain ⟨A,c,rfl,_⟩:=own_form hF.own
 have c0:=hF.blk.cell 0
 have c1:=hF.blk.cell 1
 have f0:=hF.blk.frozen 0
 have f1:=hF.blk.frozen 1
 simp only [List.getElem?_cons_succ,List.getElem?_cons_zero] at c0 c1
 have hne:=hF.ne
 have hB1:=(hF.blk.set_ 0 (.slice none 0 0)).set_ 1 (.bool true)
 have hO1:=own_set (own_set hF.own hne (o:=0) (.slice none 0 0)) hne (o:=1) (.bool true)
 have hC1:=((Chg.refl w (Its fb (.slice A K.length c))).setCell (p:=⟨fb,0,none⟩) (.slice none 0 0) (.inl rfl)).setCell (p:=⟨fb,1,none⟩) (.bool true) (.inl rfl)
 obtain ⟨w1,hw1⟩:∃w1,w1=(w.setCell ⟨fb,0,none⟩ (.slice none 0 0)).setCell ⟨fb,1,none⟩ (.bool true):=⟨_,rfl⟩
 rw [←hw1] at hB1 hO1 hC1
 have hlow:∀i,i < base→¬Its fb (.slice A K.length c) i:=fun i hi=>hF.its hi
 have hL1:Laid w1:=hL.below (hC1.below hb hlow) hg
 have hle:=hF.le
 obtain ⟨k,hk⟩:∃k,k=K.length:=⟨_,rfl⟩
 rw [←hk] at c0 hO1 hsm hne hC1 ⊢
 have HO:=Lib.hid (order_from (t:=0) (A':=A) (c':=c) hO1 (Nat.zero_le _) (fun h=>by
  obtain ⟨g,cap,hv,_⟩:=hO1.form h
  injection hv with h1
  exact ⟨g,h1,h1⟩) hL1 hg hsm)
 rw [Nat.sub_zero,List.take_zero,List.drop_zero,List.nil_append] at HO
 have HW:=Lib.hid hw1
 have HB1:=Lib.hid hB1
 have HC1:=Lib.hid hC1
 have HNE:=Lib.hid hne
 have HOO:=Lib.hid hO1
 clear hF hL hL1 hB1 hO1 hC1 hlow hk hne
 go_enter Tryd.func39,Tryd.ntmps39
 go_wp2_with fail
 rw [←HW.out]
 refine HO.out.mono ?_
 rintro e w2 ⟨rfl,ho2,hg2⟩
 have HO2:=Lib.hid ho2
 have HG2:=Lib.hid hg2
 clear ho2 hg2 c0 c1 f0 f1
 go_wp2_with fail
 go_ret
 refine ⟨rfl,HO2.out,⟨HB1.out.grown HG2.out (fun e=>HNE.out e.symm),World.ownsRow_nil _ _ _ _,hle⟩,HC1.out.grown HG2.out fun i _ e=>.inr e⟩
set_option maxHeartbeats 4000000 in
theorem normal_any (A:Option Addr) (l:List Int) (n c:Nat) (w:World) (hL:Laid w) (hr:Rd w w.heap.size A (nums l)) (hn:l.length=n) (hsm:n≤34359738368) :
  Calls Tryd.prog 22 #[.slice A n c] w (Mine w.heap.size w (normal l)):=by
 obtain ⟨i0,hi,hz0,hz1,hz2⟩:=info_parts infoI32
 have hsz:=hL.size
 obtain ⟨w1,hw1⟩:∃w1,w1=w.alloc (.cells #[.slice none 0 0,.bool false] 88):=⟨_,rfl⟩
 have hL1:Laid w1:=by rw [hw1];exact hL.alloc _
 have hF1:Fm w1 w.heap.size w.heap.size (.slice none 0 0) [] false:=by rw [hw1];exact new_fm w _ (Nat.le_refl _)
 have hr1:Rd w1 w1.heap.size A (nums l):=by rw [hw1];exact (hr.alloc (Nat.le_refl _) _).more (by simp)
 have hb1:w.heap.size≤w1.heap.size:=by rw [hw1];simp
 have hB1:Below w.heap.size w w1:=by rw [hw1];exact (Below.refl _ _).alloc (Nat.le_refl _) _
 have hfl:=fulls_len l
 rw [hn] at hfl
 have htl:=told_pend_len [] (fulls l)
 rw [List.length_nil,Nat.zero_add] at htl
 have HWR:=Lib.hid (write_any w.heap.size w.heap.size (.slice none 0 0) [] l A n c w1 hL1 hF1 marks_nil hr1 (fun _ _ _ h=>by cases h) hn hb1 hsz (by simp;omega))
 have HW1:=Lib.hid hw1
 have HL1:=Lib.hid hL1
 have HB1:=Lib.hid hB1
 have HF1:=Lib.hid hF1
 have HE:=Lib.hid (show normal l=told [] (fulls l)++ord (pend [] (fulls l)) from rfl)
 generalize told [] (fulls l)=T at *
 generalize pend [] (fulls l)=P at *
 have HTL:=Lib.hid htl
 have HFL:=Lib.hid hfl
 clear hL hr hn hw1 hL1 hF1 hr1 hB1 htl hfl
 have HBASE:=Lib.hid hb1
 go_enter Tryd.func22,Tryd.ntmps22
 go_wp2_with fail
 refine (new_any w).mono ?_
 rintro e w1' ⟨rfl,hw⟩
 rw [←HW1.out] at hw
 subst hw
 go_wp2_with fail
 refine HWR.out.mono ?_
 rintro e w2 ⟨v2,v3,rfl,hF2,ho2,hc2,hn2,ha2,_⟩
 have hlow:∀i,i < w.heap.size→¬Its w.heap.size (.slice none 0 0) i:=fun i hi=>HF1.out.its hi
 have HL2:=Lib.hid (HL1.out.below (hc2.below HBASE.out hlow) hsz)
 have HB2:=Lib.hid (HB1.out.trans (hc2.below HBASE.out hlow))
 have HF2:=Lib.hid hF2
 have HO2:=Lib.hid ho2
 have HX2:=Lib.hid (show ∀k,v2.ownBlock=some k→¬Its w.heap.size v3 k from fun k hk hi=>by
  rcases hi with e | e
  ·exact hn2 (e ▸ hk)
  ·exact (ha2 k hk).1 e)
 have HV:=Lib.hid hn2
 clear hF2 ho2 hc2 hn2 ha2 HWR
 go_wp2_with fail
 refine (close_any w.heap.size w.heap.size v3 P false w2 HL2.out HF2.out HB2.out.size hsz (by have:=HTL.out;have:=HFL.out;omega)).mono ?_
 rintro e w3 ⟨rfl,ho3,hF3,hc3⟩
 have HO3:=Lib.hid (own_keep HO2.out hc3 HX2.out)
 have HB3:=Lib.hid (HB2.out.trans (hc3.below HB2.out.size (fun i hi=>HF2.out.its hi)))
 obtain ⟨A3,c3,rfl,_,_,hr3⟩:=own_form ho3
 have HR3:=Lib.hid hr3
 have hb3:=HB3.out.size
 clear ho3 hF3 hc3 hr3 HO2 HX2 HF2 HL2 hlow
 go_wp2_with (at_builtin;refine wpList_append_rd _ rfl (.tmp 9) (.tmp 11) _ rfl w.heap.size 21 i0 _ 1 4 Tryd.underlying35 hi hz0 hz1 hz2 rfl (by decide) v2 T.length (nums T) rfl HO3.out _ A3 P.length c3 (nums (ord P)) rfl (by rw [nums_len,ord_len,Nat.mul_one]) HR3.out (nums_one _) (by have:=HTL.out;have:=HFL.out;unfold maxLen;omega) (by have:=HTL.out;have:=HFL.out;omega) hb3 ?_;intro v6 w6 hown6 hgr6 _)
 go_ret
 refine ⟨v6,rfl,?_,HB3.out.grown hgr6 hb3 fun k hk=>(HO3.out.lt k hk).1⟩
 rw [HE.out,List.length_append,ord_len,nums_append]
 exact hown6
end Go.Proofs.YtdngaddggcmjgaaDoor.Norm
namespace Go.Proofs.YtdngaddggcmjgaaDoor.Norm
open Go.Shelf Go.RowKit Go.Sort Utf
open Ucd hiding grow same Told
def shiftL (F:List Int) (a:Nat):List Int:=(List.range F.length).map fun i=>if i≤a then F.getD i 0 else F.getD (i - 1) 0
theorem shiftL_len (F:List Int) (a:Nat):(shiftL F a).length=F.length:=by simp [shiftL]
theorem shiftL_get (F:List Int) (a i:Nat) (h:i < (shiftL F a).length):(shiftL F a)[i]=if i≤a then F.getD i 0 else F.getD (i - 1) 0:=by simp [shiftL]
theorem shiftL_start (F:List Int) (a:Nat) (h:F.length≤a+1):shiftL F a=F:=by
 apply List.ext_getElem (shiftL_len F a)
 intro i h1 h2
 rw [shiftL_get,if_pos (by omega)]
 simp [List.getD,List.getElem?_eq_getElem h2]
theorem shiftL_step (F:List Int) (a:Nat):(shiftL F (a+1)).set (a+1) (F.getD a 0)=shiftL F a:=by
 apply List.ext_getElem (by simp [shiftL_len])
 intro i h1 h2
 rw [List.getElem_set]
 split
 ·rename_i e
  subst e
  rw [shiftL_get,if_neg (by omega)]
  simp
 ·rw [shiftL_get,shiftL_get]
  by_cases h:i≤a
  ·rw [if_pos (by omega),if_pos h]
  ·rw [if_neg (by omega),if_neg h]
theorem shiftL_end (F:List Int) (x:Int) (a:Nat) (h:a≤F.length):(shiftL (F++[x]) a).set a x=F.take a++x :: F.drop a:=by
 apply List.ext_getElem (by simp [shiftL_len];omega)
 intro i h1 h2
 have hi:i < F.length+1:=by simpa [shiftL_len] using h1
 rw [List.getElem_set]
 split
 ·rename_i e
  subst e
  rw [List.getElem_append_right (by simp;omega)]
  simp [Nat.min_eq_left h]
 ·rename_i e
  rw [shiftL_get]
  by_cases hia:i < a
  ·rw [if_pos (by omega),List.getElem_append_left (by simp;omega)]
   simp [List.getD,List.getElem?_append_left (show i < F.length by omega),List.getElem?_eq_getElem (show i < F.length by omega)]
  ·have hl:(F.take a).length=a:=by simp;omega
   rw [if_neg (by omega),List.getElem_append_right (by omega)]
   obtain ⟨q,rfl⟩:∃q,i=a+1+q:=⟨i - a - 1,by omega⟩
   have e1:a+1+q - (F.take a).length=q+1:=by omega
   have e2:a+1+q - 1=a+q:=by omega
   simp only [e1,List.getElem_cons_succ,List.getElem_drop,e2]
   simp [List.getD,List.getElem?_append_left (show a+q < F.length by omega),List.getElem?_eq_getElem (show a+q < F.length by omega)]
theorem getD_eq (F:List Int) {i:Nat} (h:i < F.length):F.getD i 0=F[i]:=by simp [List.getD,List.getElem?_eq_getElem h]
theorem nums_set (l:List Int) (j:Nat) (x:Int):(nums l).set j (.int .i32 x)=nums (l.set j x):=by
 unfold nums
 rw [List.map_set]
theorem place (T P:List Int) (x:Int) (lo:Nat) (hP:Up P) (h1:T.length≤lo) (h2:lo≤T.length+P.length)
  (hl:lo=T.length∨cls ((T++P++[x]).getD (lo - 1) 0)≤cls x) (hr:lo=T.length+P.length∨cls x < cls ((T++P++[x]).getD lo 0)) :
  (T++P).take lo++x :: (T++P).drop lo=T++ins x P:=by
 obtain ⟨p,rfl⟩:∃p,lo=T.length+p:=⟨lo - T.length,by omega⟩
 have hg:∀i,i < P.length→(T++P++[x]).getD (T.length+i) 0=P.getD i 0:=fun i hi=>by
  rw [List.append_assoc,List.getD,List.getD,List.getElem?_append_right (by omega),Nat.add_sub_cancel_left,List.getElem?_append_left hi]
 have up:∀i j (hi:i < P.length) (hj:j < P.length),i≤j→cls P[i]≤cls P[j]:=fun i j hi hj hij=>by
  rcases Nat.eq_or_lt_of_le hij with rfl | h
  ·exact Int.le_refl _
  ·exact List.pairwise_iff_getElem.1 hP i j hi hj h
 have e:=ins_at (x:=x) (l:=P) (p:=p) (by omega) (fun i h hi=>by
  rcases hl with h' | h'
  ·omega
  ·rw [show T.length+p - 1=T.length+(p - 1) by omega,hg _ (by omega),getD_eq _ (by omega)] at h'
   have:=up i (p - 1) h (by omega) (by omega)
   omega) (fun i h hi=>by
  rcases hr with h' | h'
  ·omega
  ·rw [hg _ (by omega),getD_eq _ (by omega)] at h'
   have:=up p i (by omega) h hi
   omega)
 rw [e,List.take_append,List.drop_append,List.take_of_length_le (by omega),List.drop_of_length_le (by omega),Nat.add_sub_cancel_left]
 simp
theorem nf_start (D:List Int) {x:Int} (h:cls x=0):nf (D++[x])=nf D++[x]∧(told [] (D++[x])).length=(nf D).length+1:=by
 obtain ⟨e1,e2⟩:=told_start [] D h
 have e3:nf (D++[x])=nf D++[x]:=by
  rw [nf,nfm,e1,e2,ord_nil,List.append_nil];rfl
 refine ⟨e3,?_⟩
 rw [e1,List.length_append];rfl
theorem nf_mark (D:List Int) {x:Int} (h:cls x≠0):nf (D++[x])=told [] D++ins x (ord (pend [] D))∧told [] (D++[x])=told [] D:=by
 obtain ⟨e1,e2⟩:=told_mark [] D h
 refine ⟨?_,e1⟩
 rw [nf,nfm,e1,e2,ord_snoc]
set_option maxHeartbeats 16000000 in
set_option maxRecDepth 100000 in
theorem rnormal_any (A:Option Addr) (l:List Int) (n c:Nat) (w:World) (hr:Rd w w.heap.size A (nums l)) (hn:l.length=n) (hsm:n≤34359738368) :
  Calls Tryd.prog 23 #[.slice A n c] w (Mine w.heap.size w (normal l)):=by
 obtain ⟨i0,hi,hz0,hz1,hz2⟩:=info_parts infoI32
 have HR:=Lib.hid hr
 have HN:=Lib.hid hn
 have HSM:=Lib.hid hsm
 obtain ⟨B0,hB0⟩:∃B0,B0=w.heap.size:=⟨_,rfl⟩
 have HB0:=Lib.hid hB0
 rw [←hB0] at HR ⊢
 clear hr hn hB0 hsm
 go_enter Tryd.func23,Tryd.ntmps23
 go_wp2
 go_loopw [3,4,5] (fun vo vt i wr=>∃k t:Nat,k≤n∧i=.int .i64 k∧vt=.int .i64 t∧t≤1099511627776∧Hid (t=(told [] (fulls (l.take k))).length)∧Hid (wr.ownsRow B0 21 1 vo (nf (fulls (l.take k))).length (nums (nf (fulls (l.take k)))))∧Hid (Below B0 w wr)) (fun _ _ i _=>n - (intOf i).toNat)
 case atStart=>exact ⟨0,0,Nat.zero_le _,rfl,rfl,by omega,Lib.hid (by simp [fulls,told]),Lib.hid (by simp only [List.take_zero,fulls,List.flatMap_nil];exact World.ownsRow_nil _ _ _ _),Lib.hid (Below.refl _ _)⟩
 case round =>
  obtain ⟨k,t,hk,rfl,rfl,ht,HT,HO,HB⟩:=hrel
  by_cases hlt:k < n
  ·obtain ⟨kq,hkq⟩:∃q,q+k+1=n:=⟨n - k - 1,by omega⟩
   have HKN:=Lib.hid hkq
   clear hkq
   have hkl:k < l.length:=by rw [HN.out];exact hlt
   obtain ⟨b,o,rfl,hbl⟩:=HR.out.form (by rw [nums_len];omega)
   have hcell:wr.cell? ⟨b,o+k,none⟩=some (.int .i32 l[k]):=(HR.out.below HB.out).num hkl
   have HTK:=Lib.hid (show fulls (l.take (k+1))=fulls (l.take k)++fullF l[k] by rw [List.take_succ_eq_append_getElem hkl,fulls_append,fulls_cons];simp [fulls])
   have h3:=full_three l[k]
   have h1:=full_some l[k]
   have HC:=Lib.hid (rdec_new l[k] wr)
   have HDL:=Lib.hid (show (fulls (l.take k)).length≤3*k by have:=fulls_len (l.take k);rw [List.length_take] at this;omega)
   obtain ⟨D,hD⟩:∃D,D=fulls (l.take k):=⟨_,rfl⟩
   rw [←hD] at HT HO HTK HDL
   generalize l[k]=r at hcell HTK h3 h1 HC
   generalize fullF r=xs at HTK h3 h1 HC
   clear hkl hD
   go_wp2_with fail
   refine HC.out.mono ?_
   rintro e w1 ⟨Ad,cd,rfl,hd1,hd2,hrd,hb1,hnew⟩
   obtain ⟨gd,od,rfl,hgd⟩:=hrd.form (by rw [nums_len];exact h1)
   have HNG:=Lib.hid (show ∀g,u3.ownBlock=some g→gd≠g from fun g hv=>by have:=(HO.out.lt g hv).2;have:=hnew gd od rfl;omega)
   have HO1:=Lib.hid (own_below HO.out hb1)
   have HB1:=Lib.hid (HB.out.trans (hb1.mono (by have:=HB.out.size;have:=HB0.out;omega)))
   obtain ⟨m,hm⟩:∃m,m=xs.length:=⟨_,rfl⟩
   have HM:=Lib.hid hm
   have HCL:=Lib.hid (show ∀j (h:j < xs.length),w1.cell? ⟨gd,od+j,none⟩=some (.int .i32 xs[j]) from fun j h=>hrd.num h)
   have HGD:=Lib.hid hgd
   rw [←hm] at h1 h3 hd1 ⊢
   clear hm hb1 hrd hnew HC HO HB hgd
   go_wp2_with fail
   go_loopw [3,4,7] (fun vo vt i wx=>∃j t:Nat,j≤m∧i=.int .i64 j∧vt=.int .i64 t∧t≤1099511627776∧Hid (t=(told [] (D++xs.take j)).length)∧Hid (wx.ownsRow B0 21 1 vo (nf (D++xs.take j)).length (nums (nf (D++xs.take j))))∧Hid (Below B0 w wx)∧Hid (∀g,vo.ownBlock=some g→gd≠g)∧Hid (∀j (h:j < xs.length),wx.cell? ⟨gd,od+j,none⟩=some (.int .i32 xs[j]))∧Hid (gd < wx.heap.size)) (fun _ _ i _=>m - (intOf i).toNat)
   case atStart=>exact ⟨0,t,Nat.zero_le _,rfl,rfl,ht,by simpa using HT,by simpa using HO1,HB1,HNG,HCL,HGD⟩
   case round =>
    clear HO1 HB1 HNG HCL HT HGD
    obtain ⟨j,t,hj,rfl,rfl,ht,HT,HO,HB,HNG,HCL,HGD⟩:=hrel
    by_cases hjt:j < m
    ·have hjl:j < xs.length:=by rw [←HM.out];exact hjt
     have hcell:wr.cell? ⟨gd,od+j,none⟩=some (.int .i32 xs[j]):=HCL.out j hjl
     have HTK2:=Lib.hid (show xs.take (j+1)=xs.take j++[xs[j]] from List.take_succ_eq_append_getElem hjl)
     have HXJ:=Lib.hid (show ∃h:j < xs.length,xs[j]=xs[j] from ⟨hjl,rfl⟩)
     obtain ⟨x,hx⟩:∃x,x=xs[j]:=⟨_,rfl⟩
     rw [←hx] at hcell HTK2
     have HFN:=Lib.hid (show (nf (D++xs.take j)).length≤274877906944 by rw [nf_len,List.length_append,List.length_take];have:=HDL.out;have:=HKN.out;have:=HSM.out;omega)
     obtain ⟨F,hF⟩:∃F,F=nf (D++xs.take j):=⟨_,rfl⟩
     rw [←hF] at HO HFN
     have HFE:=Lib.hid hF
     obtain ⟨f,hf⟩:∃f,f=F.length:=⟨_,rfl⟩
     rw [←hf] at HO HFN
     have HFL:=Lib.hid hf
     have htf:t≤f:=by rw [hf,hF,nf,nfm,List.length_append,HT.out];omega
     have hb3:B0≤wr.heap.size:=Nat.le_trans (Nat.le_of_eq HB0.out) HB.out.size
     have hfn:=HFN.out
     clear hF hjl hx HXJ hf
     by_cases hc:cls x=0
     ·have hcb:(cls x == 0)=true:=by simp [hc]
      have HX:=Lib.hid hc
      have HC0:=Lib.hid (rclass_any x wr)
      rw [hc] at HC0
      clear hc
      go_wp2_with (first | (go_at_call 29;refine HC0.out.mono ?_;rintro e w2 ⟨rfl,rfl⟩) | (at_builtin;refine wpList_append_rd _ rfl (.tmp 35) (.tmp 40) _ rfl B0 21 i0 _ 1 4 Tryd.underlying35 hi hz0 hz1 hz2 rfl (by decide) u3 f (nums F) rfl (HO.out.alloc _) _ (some ⟨wr.heap.size,0,none⟩) 1 1 [.int .i32 x] rfl rfl (rd_new _ _ [.int .i32 x] _ rfl) (nums_one [x]) (by unfold maxLen;omega) (by omega) (by simp;omega) ?_;intro v6 w6 hown6 hgr6 hat6;obtain ⟨A6,c6,hv6,_⟩:=own_form hown6;subst hv6))
      have HNF:=Lib.hid (show nf (D++xs.take (j+1))=F++[x]∧f+1=(told [] (D++xs.take (j+1))).length by
       obtain ⟨e1,e2⟩:=nf_start (D++xs.take j) HX.out
       rw [HTK2.out,←List.append_assoc,e1,e2,HFE.out]
       exact ⟨rfl,by rw [HFL.out,HFE.out]⟩)
      have HO6:=Lib.hid (show w6.ownsRow B0 21 1 (.slice A6 (f+1) c6) (nf (D++xs.take (j+1))).length (nums (nf (D++xs.take (j+1)))) by
       rw [HNF.out.1,List.length_append,←HFL.out,nums_append];exact hown6)
      have HG6:=Lib.hid hgr6
      have HB6:=Lib.hid ((HB.out.alloc hb3 (.cells [Value.int .i32 x].toArray 21)).grown hgr6 (by simp;omega) (fun y hy=>(HO.out.lt y hy).1))
      have HNG6:=Lib.hid (show ∀g,(Value.slice A6 (f+1) c6).ownBlock=some g→gd≠g from fun g hg'=>by
       rcases hat6 with e | e
       ·exact HNG.out g (e ▸ hg')
       ·rw [e] at hg';injection hg' with hg';have:=HGD.out;simp at hg';omega)
      have HCL6:=Lib.hid (show ∀i (h:i < xs.length),w6.cell? ⟨gd,od+i,none⟩=some (.int .i32 xs[i]) from fun i h=>by
       have hgd:=HGD.out
       rw [hgr6.cell_far ⟨gd,od+i,none⟩ (by simp;omega) (fun e=>HNG.out gd e.symm rfl),World.cell?_alloc_lt _ _ _ hgd]
       exact HCL.out i h)
      have HGD6:=Lib.hid (show gd < w6.heap.size by have:=hgr6.size;have:=HGD.out;simp at *;omega)
      have HT6:=Lib.hid HNF.out.2
      have hf1:f+1≤1099511627776:=by omega
      clear hown6 hgr6 hat6 HNF HO HB HNG HCL HGD
      go_roundw
      case rel=>exact ⟨j+1,f+1,by omega,by go_num,by go_num,hf1,HT6,HO6,HB6,HNG6,HCL6,HGD6⟩
      case measure=>simp [intOf];omega
     ·have hcb:(cls x == 0)=false:=by simpa using hc
      have HX:=Lib.hid hc
      have HC0:=Lib.hid (rclass_any x wr)
      obtain ⟨cx,hcx⟩:∃cx,cx=cls x:=⟨_,rfl⟩
      rw [←hcx] at HC0 hcb
      have HCX:=Lib.hid hcx
      clear hc hcx
      go_wp2_with (first | (go_at_call 29;refine HC0.out.mono ?_;rintro e w2 ⟨rfl,rfl⟩) | (at_builtin;refine wpList_append_rd _ rfl (.tmp 35) (.tmp 40) _ rfl B0 21 i0 _ 1 4 Tryd.underlying35 hi hz0 hz1 hz2 rfl (by decide) u3 f (nums F) rfl (HO.out.alloc _) _ (some ⟨wr.heap.size,0,none⟩) 1 1 [.int .i32 x] rfl rfl (rd_new _ _ [.int .i32 x] _ rfl) (nums_one [x]) (by unfold maxLen;omega) (by omega) (by simp;omega) ?_;intro v6 w6 hown6 hgr6 hat6;obtain ⟨g6,c6,hv6,_⟩:=hown6.form (by omega);subst hv6))
      obtain ⟨G,hG⟩:∃G,G=F++[x]:=⟨_,rfl⟩
      have HGE:=Lib.hid hG
      have HGL:=Lib.hid (show G.length=f+1 by rw [hG,List.length_append,HFL.out];rfl)
      have HO6:=Lib.hid (show w6.ownsRow B0 21 1 (.slice (some ⟨g6,0,none⟩) (f+1) c6) (f+1) (nums G) by rw [hG,nums_append];exact hown6)
      have HB6:=Lib.hid ((HB.out.alloc hb3 (.cells [Value.int .i32 x].toArray 21)).grown hgr6 (by simp;omega) (fun y hy=>(HO.out.lt y hy).1))
      have HNG6:=Lib.hid (show gd≠g6 from by
       rcases hat6 with e | e
       ·exact HNG.out g6 (e ▸ rfl)
       ·have hg':some g6=some _:=e
        injection hg' with hg';have:=HGD.out;simp at hg';omega)
      have HCL6:=Lib.hid (show ∀i (h:i < xs.length),w6.cell? ⟨gd,od+i,none⟩=some (.int .i32 xs[i]) from fun i h=>by
       have hgd:=HGD.out
       rw [hgr6.cell_far ⟨gd,od+i,none⟩ (by simp;omega) (fun e=>HNG.out gd e.symm rfl),World.cell?_alloc_lt _ _ _ hgd]
       exact HCL.out i h)
      have HGD6:=Lib.hid (show gd < w6.heap.size by have:=hgr6.size;have:=HGD.out;simp at *;omega)
      have hb6:B0≤w6.heap.size:=Nat.le_trans (Nat.le_of_eq HB0.out) HB6.out.size
      have hg6:B0≤g6:=(HO6.out.lt g6 rfl).1
      have HXJ:=Lib.hid (show ∃h:j < xs.length,xs[j]=x from by
       have hjl:j < xs.length:=by rw [←HM.out];exact hjt
       refine ⟨hjl,?_⟩
       have e:=HTK2.out
       rw [List.take_succ_eq_append_getElem hjl] at e
       exact (List.cons.inj (List.append_cancel_left e)).1)
      clear hown6 hgr6 hat6 HO HB HNG HCL HGD hG HC0 hb3 hcell
      go_loopw [9,10,11] (fun vlo vhi _ wx=>∃lo hi:Nat,vlo=.int .i64 lo∧vhi=.int .i64 hi∧t≤lo∧lo≤hi∧hi≤f∧Hid (lo=t∨cls (G.getD (lo - 1) 0)≤cls x)∧Hid (hi=f∨cls x < cls (G.getD hi 0))∧Hid (wx=w6)) (fun vlo vhi _ _=>(intOf vhi - intOf vlo).toNat)
      case atStart=>exact ⟨t,f,rfl,by go_num,Nat.le_refl _,htf,Nat.le_refl _,Lib.hid (.inl rfl),Lib.hid (.inl rfl),Lib.hid rfl⟩
      case round =>
       obtain ⟨lo,hi',rfl,rfl,l1,l2,l3,HLO,HHI,HW⟩:=hrel
       by_cases hlh:lo < hi'
       ·have hlhz:(lo:Int) < (hi':Int):=by omega
        obtain ⟨m2,hm2⟩:∃m2:Nat,m2=(lo+hi') / 2:=⟨_,rfl⟩
        have hz:((lo:Int)+(hi':Int)) / 2=(m2:Int):=by omega
        have hz2:Int.tdiv ((lo:Int)+(hi':Int)) 2=(m2:Int):=by rw [Int.tdiv_eq_ediv_of_nonneg (by omega)];exact hz
        have k1:lo≤m2:=by omega
        have k2:m2 < hi':=by omega
        have hcm:wr.cell? ⟨g6,m2,none⟩=some (.int .i32 (G.getD m2 0)):=by
         rw [HW.out,HO6.out.cellAt m2 (by omega),nums_get (by rw [HGL.out];omega),getD_eq _ (by rw [HGL.out];omega)]
        obtain ⟨y,hy⟩:∃y,y=G.getD m2 0:=⟨_,rfl⟩
        rw [←hy] at hcm
        obtain ⟨cy,hcy⟩:∃cy,cy=cls y:=⟨_,rfl⟩
        have HCY:=Lib.hid (rclass_any y wr)
        rw [←hcy] at HCY
        have HYE:=Lib.hid (show cls (G.getD m2 0)=cy by rw [←hy,hcy])
        clear hm2 hy hcy hlh
        by_cases hv:cx < cy
        ·have HHI2:=Lib.hid (show m2=f∨cls x < cls (G.getD m2 0) from .inr (by rw [HYE.out,←HCX.out];exact hv))
         go_wp2_with (go_at_call 29;refine HCY.out.mono ?_;rintro e w2 ⟨rfl,rfl⟩)
         go_roundw
         case rel=>exact ⟨lo,m2,rfl,rfl,l1,k1,by omega,HLO,HHI2,HW⟩
         case measure=>simp [intOf];omega
        ·have HLO2:=Lib.hid (show m2+1=t∨cls (G.getD (m2+1 - 1) 0)≤cls x from .inr (by rw [Nat.add_sub_cancel,HYE.out,←HCX.out];omega))
         go_wp2_with (go_at_call 29;refine HCY.out.mono ?_;rintro e w2 ⟨rfl,rfl⟩)
         go_roundw
         case rel=>exact ⟨m2+1,hi',by go_num,rfl,by omega,by omega,l3,HLO2,HHI,HW⟩
         case measure=>simp [intOf];omega
       ·have hlhz:¬(lo:Int) < (hi':Int):=by omega
        obtain rfl:lo=hi':=by omega
        obtain ⟨wz,hwz⟩:∃wz,wz=wr:=⟨_,rfl⟩
        have HPL:=Lib.hid (show F.take lo++x :: F.drop lo=nf (D++xs.take (j+1))∧told [] (D++xs.take (j+1))=told [] (D++xs.take j) by
         obtain ⟨e1,e2⟩:=nf_mark (D++xs.take j) HX.out
         have hFe:F=told [] (D++xs.take j)++ord (pend [] (D++xs.take j)):=HFE.out
         have hfl:f=(told [] (D++xs.take j)).length+(ord (pend [] (D++xs.take j))).length:=by rw [HFL.out,hFe,List.length_append]
         have h:=place (told [] (D++xs.take j)) (ord (pend [] (D++xs.take j))) x lo (ord_up _) (by rw [←HT.out];exact l1) (by omega)
          (by rw [←hFe,←HGE.out,←HT.out];exact HLO.out) (by rw [←hFe,←HGE.out,←hfl];exact HHI.out)
         rw [HTK2.out,←List.append_assoc,e1,e2,hFe]
         exact ⟨h,rfl⟩)
        rw [HW.out]
        clear HW HLO HHI hlh hwz
        go_wp2_with fail
        go_loopw [12] (fun va wx=>∃a:Nat,va=.int .i64 a∧lo≤a∧a≤f∧Hid (wx.ownsRow B0 21 1 (.slice (some ⟨g6,0,none⟩) (f+1) c6) (f+1) (nums (shiftL G a)))∧Hid (Below B0 w wx)∧Hid (∀i (h:i < xs.length),wx.cell? ⟨gd,od+i,none⟩=some (.int .i32 xs[i]))∧Hid (gd < wx.heap.size)) (fun va _=>(intOf va).toNat)
        case atStart=>exact ⟨f,by go_num,l3,Nat.le_refl _,Lib.hid (by rw [shiftL_start G f (by rw [HGL.out];omega)];exact HO6.out),HB6,HCL6,HGD6⟩
        case round =>
         clear HO6 HB6 HCL6 HGD6
         obtain ⟨a,rfl,a1,a2,HO,HB,HCL,HGD⟩:=hrel
         by_cases hal:lo < a
         ·obtain ⟨q,rfl⟩:∃q,a=q+1:=⟨a - 1,by omega⟩
          obtain ⟨p,hp⟩:∃p,p=q+1:=⟨_,rfl⟩
          have ec:((q+1:Nat):Int)=(p:Int):=by omega
          have eb:(p:Int) - 1=(q:Int):=by omega
          have ltp:(lo:Int) < (p:Int):=by omega
          have p2:p≤f:=by omega
          rw [ec]
          rw [←hp] at HO
          have hsl:(shiftL G p).length=f+1:=by rw [shiftL_len,HGL.out]
          have c1:wr.cell? ⟨g6,q,none⟩=some (.int .i32 (G.getD q 0)):=by
           rw [HO.out.cellAt q (by omega),nums_get (by omega),shiftL_get,if_pos (by omega)]
          have c2:wr.cell? ⟨g6,p,none⟩=some (.int .i32 (shiftL G p)[p]):=by
           rw [HO.out.cellAt p (by omega),nums_get (by omega)]
          have f2:=HO.out.frozenAt p
          have HO7:=Lib.hid (HO.out.stored p (.int .i32 (G.getD q 0))).1
          rw [nums_set,show (shiftL G p).set p (G.getD q 0)=shiftL G q by rw [hp];exact shiftL_step G q] at HO7
          have HB7:=Lib.hid (HB.out.setCell (p:=⟨g6,p,none⟩) hg6 (.int .i32 (G.getD q 0)))
          have HCL7:=Lib.hid (show ∀i (h:i < xs.length),(wr.setCell ⟨g6,p,none⟩ (.int .i32 (G.getD q 0))).cell? ⟨gd,od+i,none⟩=some (.int .i32 xs[i]) from fun i h=>by
           rw [World.cell?_setCell_other _ _ _ _ (by intro e;have:=HNG6.out;simp only [Addr.mk.injEq] at e;omega)]
           exact HCL.out i h)
          have HGD7:=Lib.hid (show gd < (wr.setCell ⟨g6,p,none⟩ (.int .i32 (G.getD q 0))).heap.size by have:=HGD.out;simpa [World.setCell] using this)
          generalize G.getD q 0=y at c1 HO7 HB7 HCL7 HGD7
          generalize (shiftL G p)[p]=y2 at c2
          clear hp hsl HO HB HCL HGD hal
          go_wp2_with fail
          go_roundw
          case rel=>exact ⟨q,rfl,by omega,by omega,HO7,HB7,HCL7,HGD7⟩
          case measure=>simp [intOf];omega
         ·obtain rfl:a=lo:=by omega
          have hjl:j < xs.length:=by rw [←HM.out];exact hjt
          have cj:wr.cell? ⟨gd,od+j,none⟩=some (.int .i32 x):=by
           obtain ⟨h,e⟩:=HXJ.out
           rw [HCL.out j h,e]
          have hsl:(shiftL G a).length=f+1:=by rw [shiftL_len,HGL.out]
          have c2:wr.cell? ⟨g6,a,none⟩=some (.int .i32 (shiftL G a)[a]):=by
           rw [HO.out.cellAt a (by omega),nums_get (by omega)]
          have f2:=HO.out.frozenAt a
          have HO7:=Lib.hid (HO.out.stored a (.int .i32 x)).1
          rw [nums_set,show (shiftL G a).set a x=nf (D++xs.take (j+1)) by rw [HGE.out,shiftL_end F x a (by rw [←HFL.out];exact a2)];exact HPL.out.1] at HO7
          have HLN:=Lib.hid (show (nf (D++xs.take (j+1))).length=f+1 by rw [←HPL.out.1];simp only [List.length_append,List.length_take,List.length_cons,List.length_drop];have:=HFL.out;omega)
          have HO8:=Lib.hid (show (wr.setCell ⟨g6,a,none⟩ (.int .i32 x)).ownsRow B0 21 1 (.slice (some ⟨g6,0,none⟩) (f+1) c6) (nf (D++xs.take (j+1))).length (nums (nf (D++xs.take (j+1)))) by rw [HLN.out];exact HO7.out)
          have HB7:=Lib.hid (HB.out.setCell (p:=⟨g6,a,none⟩) hg6 (.int .i32 x))
          have HCL7:=Lib.hid (show ∀i (h:i < xs.length),(wr.setCell ⟨g6,a,none⟩ (.int .i32 x)).cell? ⟨gd,od+i,none⟩=some (.int .i32 xs[i]) from fun i h=>by
           rw [World.cell?_setCell_other _ _ _ _ (by intro e;have:=HNG6.out;simp only [Addr.mk.injEq] at e;omega)]
           exact HCL.out i h)
          have HGD7:=Lib.hid (show gd < (wr.setCell ⟨g6,a,none⟩ (.int .i32 x)).heap.size by have:=HGD.out;simpa [World.setCell] using this)
          have HT7:=Lib.hid (show t=(told [] (D++xs.take (j+1))).length by rw [HPL.out.2];exact HT.out)
          have HNG7:=Lib.hid (show ∀g,(Value.slice (some ⟨g6,0,none⟩) (f+1) c6).ownBlock=some g→gd≠g from fun g h=>by
           have e:some g6=some g:=h
           injection e with e
           have:=HNG6.out
           omega)
          generalize (shiftL G a)[a]=y2 at c2
          clear hsl HO HO7 HB HCL HGD HPL hjl hal
          go_wp2_with fail
          go_roundw
          case rel=>exact ⟨j+1,t,by omega,by go_num,rfl,ht,HT7,HO8,HB7,HNG7,HCL7,HGD7⟩
          case measure=>simp [intOf];omega
    ·obtain rfl:j=m:=by omega
     have HXT:=Lib.hid (show xs.take j=xs by rw [HM.out];exact List.take_length)
     rw [HXT.out,←HTK.out] at HT HO
     clear HNG HCL HXT HTK HGD
     have hkb:k+1≤274877906944:=by have:=HKN.out;have:=HSM.out;omega
     go_wp2_with fail
     go_roundw
     case rel=>exact ⟨k+1,t,by have:=HKN.out;omega,by go_num,rfl,ht,HT,HO,HB⟩
     case measure=>have:=HKN.out;simp [intOf];omega
  ·have hkn:k=n:=by omega
   have HLT:=Lib.hid (show l.take k=l by rw [hkn,←HN.out];exact List.take_length)
   rw [HLT.out] at HO
   clear hkn
   go_wp2
   go_ret
   exact ⟨_,rfl,HO.out,HB.out⟩
end Go.Proofs.YtdngaddggcmjgaaDoor.Norm
