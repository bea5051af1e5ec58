/-
  Texts of stage 7, part 14.
-/
import Derived.Shelf.SlSortCmp.WholeK
import Derived.Outline
import Derived.Test.YtkgeiokckfpjlaaGreatDoorM8
import Derived.Test.YtkgeiokckfpjlaaGreatDoorM13
namespace Go.Proofs.YtkgeiokckfpjlaaGreatDoor.Rset
open Go.Shelf Go.RowKit Go.Lib Go.Sort
open Utf (Rd Blk)
def sortEd_ren:Go.Shelf.Ren:=⟨fun | 6=>313 | 15=>197 | 14=>325 | 28=>238 | 29=>166 | 20=>335 | 21=>336 | 22=>337 | 23=>338 | 24=>339 | 25=>340 | 26=>341 | 27=>342 | 46=>347 | 47=>271 | 48=>272 | 49=>348 | 50=>349 | 57=>353 | n=>n,fun | 22=>295 | 24=>298 | 25=>310 | 3=>3 | 39=>189 | 0=>0 | 53=>198 | 55=>172 | 4=>4 | 46=>239 | 45=>238 | 50=>243 | 5=>5 | 9=>9 | 66=>269 | 70=>273 | 76=>289 | 77=>222 | n=>n,fun | n=>n⟩
theorem sortEd:Go.Proofs.SlLaysF0.n6 Tryz.prog sortEd_ren:={
 mixed:=by kernel_rfl
 f6:=⟨Tryz.f313.name,by decide,Tryz.func313.trans (congrArg some (by kernel_rfl))⟩
 f14:=⟨Tryz.f325.name,by decide,Tryz.func325.trans (congrArg some (by kernel_rfl))⟩
 f15:=Tryz.func197.trans (congrArg some (by kernel_rfl))
 f20:=⟨Tryz.f335.name,by decide,Tryz.func335.trans (congrArg some (by kernel_rfl))⟩
 f21:=⟨Tryz.f336.name,by decide,Tryz.func336.trans (congrArg some (by kernel_rfl))⟩
 f22:=⟨Tryz.f337.name,by decide,Tryz.func337.trans (congrArg some (by kernel_rfl))⟩
 f23:=⟨Tryz.f338.name,by decide,Tryz.func338.trans (congrArg some (by kernel_rfl))⟩
 f24:=⟨Tryz.f339.name,by decide,Tryz.func339.trans (congrArg some (by kernel_rfl))⟩
 f25:=⟨Tryz.f340.name,by decide,Tryz.func340.trans (congrArg some (by kernel_rfl))⟩
 f26:=⟨Tryz.f341.name,by decide,Tryz.func341.trans (congrArg some (by kernel_rfl))⟩
 f27:=⟨Tryz.f342.name,by decide,Tryz.func342.trans (congrArg some (by kernel_rfl))⟩
 f28:=Tryz.func238.trans (congrArg some (by kernel_rfl))
 f29:=Tryz.func166.trans (congrArg some (by kernel_rfl))
 f46:=⟨Tryz.f347.name,by decide,Tryz.func347.trans (congrArg some (by kernel_rfl))⟩
 f47:=Tryz.func271.trans (congrArg some (by kernel_rfl))
 f48:=Tryz.func272.trans (congrArg some (by kernel_rfl))
 f49:=⟨Tryz.f348.name,by decide,Tryz.func348.trans (congrArg some (by kernel_rfl))⟩
 f50:=⟨Tryz.f349.name,by decide,Tryz.func349.trans (congrArg some (by kernel_rfl))⟩
 f57:=⟨Tryz.f353.name,by decide,Tryz.func353.trans (congrArg some (by kernel_rfl))⟩
 t0:=Tryz.underlying0
 a0:=Tryz.isAgg0
 z0:=Tryz.sizeOf0
 v0:=Tryz.zeroValue0
 t3:=Tryz.underlying3
 a3:=Tryz.isAgg3
 z3:=Tryz.sizeOf3
 v3:=Tryz.zeroValue3
 t4:=Tryz.underlying4
 a4:=Tryz.isAgg4
 z4:=Tryz.sizeOf4
 v4:=Tryz.zeroValue4
 t5:=Tryz.underlying5
 a5:=Tryz.isAgg5
 z5:=Tryz.sizeOf5
 v5:=Tryz.zeroValue5
 t9:=Tryz.underlying9
 a9:=Tryz.isAgg9
 z9:=Tryz.sizeOf9
 v9:=Tryz.zeroValue9
 t22:=Tryz.underlying295
 a22:=Tryz.isAgg295
 z22:=Tryz.sizeOf295
 v22:=Tryz.zeroValue295
 t25:=Tryz.underlying310
 a25:=Tryz.isAgg310
 z25:=Tryz.sizeOf310
 v25:=Tryz.zeroValue310
 t39:=Tryz.underlying189
 a39:=Tryz.isAgg189
 z39:=Tryz.sizeOf189
 v39:=Tryz.zeroValue189
 t45:=Tryz.underlying238
 a45:=Tryz.isAgg238
 z45:=Tryz.sizeOf238
 v45:=Tryz.zeroValue238
 t46:=Tryz.underlying239
 a46:=Tryz.isAgg239
 z46:=Tryz.sizeOf239
 v46:=Tryz.zeroValue239
 t50:=Tryz.underlying243
 a50:=Tryz.isAgg243
 z50:=Tryz.sizeOf243
 v50:=Tryz.zeroValue243
 t53:=Tryz.underlying198
 a53:=Tryz.isAgg198
 z53:=Tryz.sizeOf198
 v53:=Tryz.zeroValue198
 t55:=Tryz.underlying172
 a55:=Tryz.isAgg172
 z55:=Tryz.sizeOf172
 v55:=Tryz.zeroValue172
 t66:=Tryz.underlying269
 a66:=Tryz.isAgg269
 z66:=Tryz.sizeOf269
 v66:=Tryz.zeroValue269
 t70:=Tryz.underlying273
 a70:=Tryz.isAgg273
 z70:=Tryz.sizeOf273
 v70:=Tryz.zeroValue273
 t76:=Tryz.underlying289
 a76:=Tryz.isAgg289
 z76:=Tryz.sizeOf289
 v76:=Tryz.zeroValue289
 t77:=Tryz.underlying222
 a77:=Tryz.isAgg222
 z77:=Tryz.sizeOf222
 v77:=Tryz.zeroValue222 }
def encE (x:Ed):List Value:=[.int .i64 x.1,.int .i64 x.2.1,.int .i64 x.2.2]
def cmpE (x y:Ed):Int:=if x.1 < y.1 then -1 else if y.1 < x.1 then 1 else 0
theorem ltE (x y:Ed):ltOf cmpE x y=decide (x.1 < y.1):=by
 unfold ltOf cmpE
 by_cases h1:x.1 < y.1
 ·simp [h1]
 ·by_cases h2:y.1 < x.1 <;> simp [h1,h2]
theorem swoE:SWO (ltOf cmpE) where
 irrefl x:=by rw [ltE];simp
 trans x y z h1 h2:=by rw [ltE] at *;simp at *;omega
 ntrans x y z h1 h2:=by rw [ltE] at *;simp at *;omega
theorem isNaN_any (x:Int) (w:World):Calls Tryz.prog 298 #[.int .i64 x] w fun e w'=>e=.returned (.bool false)∧w=w':=by
 have hx:(x != x)=false:=by simp
 go_enter Tryz.func298,Tryz.ntmps298
 go_wp2
 go_ret
 exact ⟨rfl,rfl⟩
theorem compare_any (x y:Int) (w:World):Calls Tryz.prog 280 #[.int .i64 x,.int .i64 y] w fun e w'=>e=.returned (.int .i64 (if x < y then -1 else if y < x then 1 else 0))∧w=w':=by
 go_enter Tryz.func280,Tryz.ntmps280
 by_cases h1:x < y
 ·rw [if_pos h1]
  go_wp2_with (go_at_call 298;refine (isNaN_any _ _).mono ?_;rintro e w1 ⟨rfl,rfl⟩)
  go_ret
  exact ⟨rfl,rfl⟩
 ·by_cases h2:y < x
  ·rw [if_neg h1,if_pos h2]
   go_wp2_with (go_at_call 298;refine (isNaN_any _ _).mono ?_;rintro e w1 ⟨rfl,rfl⟩)
   go_ret
   exact ⟨rfl,rfl⟩
  ·rw [if_neg h1,if_neg h2]
   go_wp2_with (go_at_call 298;refine (isNaN_any _ _).mono ?_;rintro e w1 ⟨rfl,rfl⟩)
   go_ret
   exact ⟨rfl,rfl⟩
theorem closureE (x y:Ed) (W:World):Calls Tryz.prog 314 #[.agg #[.int .i64 x.1,.int .i64 x.2.1,.int .i64 x.2.2],.agg #[.int .i64 y.1,.int .i64 y.2.1,.int .i64 y.2.2]] W fun e w'=>e=.returned (.int .i64 (cmpE x y))∧∃q os',w'=grow (W.drewN q) os':=by
 have hcon:=fun W'=>compare_any x.1 y.1 W'
 have HE:=Lib.hid (show cmpE x y=if x.1 < y.1 then -1 else if y.1 < x.1 then 1 else 0 from rfl)
 rw [←HE.out] at hcon
 generalize cmpE x y=r at hcon ⊢
 go_enter Tryz.func314,Tryz.ntmps314
 go_wp2_with (go_at_call 280;refine (hcon _).mono ?_;rintro e w' ⟨rfl,rfl⟩)
 go_ret
 exact ⟨rfl,0,_,by rw [alloc_eq_grow,alloc_eq_grow,grow_grow];rfl⟩
theorem cmpLaysE (blk off size:Nat) (w:World):CmpLays Tryz.prog 314 #[] encE 3 cmpE blk off size w:=fun _ _ _ _ x y=>closureE x y _
theorem flat_eds (es:Array Ed):flatK encE 3 es=(eds es.toList).toArray:=by
 apply Array.ext_getElem?
 intro t
 rw [show (eds es.toList).toArray[t]? = (eds es.toList)[t]? from by simp]
 unfold flatK
 rw [Array.getElem?_map,Array.getElem?_range]
 by_cases h1:t < es.size*3
 ·rw [if_pos h1,Option.map_some]
  have hk:t / 3 < es.toList.length:=by rw [Array.length_toList];omega
  obtain ⟨g0,g1,g2⟩:=eds_get es.toList hk
  have he:es[t / 3]! = es.toList[t / 3]:=by rw [getElem!_pos es (t / 3) (by omega)];rfl
  rw [he]
  generalize es.toList[t / 3]=x at g0 g1 g2
  have hm:t % 3=0∨t % 3=1∨t % 3=2:=by omega
  rcases hm with hm | hm | hm
  ·rw [hm,show (eds es.toList)[t]? = some (.int .i64 x.1) by rw [←g0];congr 1;omega];rfl
  ·rw [hm,show (eds es.toList)[t]? = some (.int .i64 x.2.1) by rw [←g1];congr 1;omega];rfl
  ·rw [hm,show (eds es.toList)[t]? = some (.int .i64 x.2.2) by rw [←g2];congr 1;omega];rfl
 ·rw [if_neg h1,Option.map_none,List.getElem?_eq_none (by rw [eds_len,Array.length_toList];omega)]
theorem holds_of_own {w:World} {base g n cap:Nat} {es:List Ed} (h:w.ownsRow base 298 3 (.slice (some ⟨g,0,none⟩) n cap) n (eds es)):HoldsK encE 3 w g 0 es.toArray:=by
 unfold HoldsK
 rw [flat_eds]
 intro j hj
 have hl:=h.1
 rw [eds_len] at hl
 have hj':j < (eds es).length:=by simpa using hj
 refine ⟨?_,h.frozenAt _⟩
 rw [Nat.zero_add,h.cellAt j (by rw [eds_len] at hj';omega),List.getElem?_eq_getElem hj']
 rw [getElem!_pos _ j (by simpa using hj')]
 rfl
theorem rd_of_holds {w:World} {g:Nat} {d:Array Ed} (h:HoldsK encE 3 w g 0 d) (hg:g < w.heap.size):Rd w w.heap.size (some ⟨g,0,none⟩) (eds d.toList):=fun _=>by
 refine ⟨g,0,rfl,hg,fun j u hu=>?_⟩
 unfold HoldsK at h
 rw [flat_eds] at h
 have hj:j < (eds d.toList).length:=(List.getElem?_eq_some_iff.1 hu).1
 have:=(h j (by simpa using hj)).1
 rw [this,getElem!_pos _ j (by simpa using hj)]
 rw [List.getElem?_eq_getElem hj] at hu
 simpa using hu
theorem swk_grown {w W:World} {g:Nat} {d:Array Ed} (h:SWK encE 3 w g 0 d W):w.grownBy W (some g):=by
 obtain ⟨n,os,rfl⟩:=h
 unfold sortWorldK putRowK
 refine ⟨rfl,rfl,rfl,by simp,fun k hk hne=>?_⟩
 rw [heap_grow_old _ _ (by simpa using hk)]
 have:g≠k:=fun e=>hne (by rw [e])
 simp [putRow,mapBlock,Sort.ahead,Array.getElem?_modify,this]
def Sorted (g:Nat) (es:List Ed) (w:World) (e:Ending) (w':World):Prop :=
 e=.returned (.tuple #[])∧∃d:List Ed,d.Perm es∧AscE d∧Rd w' w'.heap.size (some ⟨g,0,none⟩) (eds d)∧w.grownBy w' (some g)
theorem sort_any (base g cap n:Nat) (es:List Ed) (w:World) (h:w.ownsRow base 298 3 (.slice (some ⟨g,0,none⟩) n cap) n (eds es)) (hg:g < w.heap.size) (hsm:n≤1099511627776) :
  Calls Tryz.prog 313 #[.slice (some ⟨g,0,none⟩) n cap,.func (.func 314) #[] #[]] w (Sorted g es w):=by
 have hl:=h.1
 rw [eds_len] at hl
 have hn:es.toArray.size=n:=by rw [List.size_toArray];omega
 have hcon:=AnyQ.slices_SortFunc sortEd 3 Tryz.isAgg298 Tryz.sizeOf298 encE (fun _=>rfl) (fun x v hv=>by simp [encE] at hv;rcases hv with rfl | rfl | rfl <;> rfl) cmpE swoE 314 #[] g 0 cap es.toArray w
  (enters_of Tryz.func314 (by kernel_rfl) rfl) (cmpLaysE g 0 es.toArray.size w) (holds_of_own h) hg (by omega)
 rw [hn] at hcon
 refine hcon.mono fun e w' ⟨he,d',k,os,hp,hs,hw⟩=>?_
 have S:SWK encE 3 w g 0 d' w':=⟨k,os,hw⟩
 have hsz:d'.size=n:=hp.1.trans hn
 refine ⟨he,d'.toList,?_,?_,rd_of_holds (S.holds hg (holds_of_own h) (by rw [hsz,hn])) (S.lt hg),swk_grown S⟩
 ·have:=hp.2.2
  rw [show d'.extract 0 n=d' by rw [←hsz];exact Array.extract_size,show es.toArray.extract 0 n=es.toArray by rw [←hn];exact Array.extract_size] at this
  exact this
 ·unfold AscE
  rw [List.pairwise_iff_getElem]
  intro i j hi hj hij
  have h3:=hs i j (Nat.zero_le _) hij (by rw [Array.length_toList] at hj;omega)
  rw [ltE,getElem!_pos d' i (by simpa using hi),getElem!_pos d' j (by simpa using hj)] at h3
  have h4:=of_decide_eq_false h3
  simp only [Array.getElem_toList]
  omega
end Go.Proofs.YtkgeiokckfpjlaaGreatDoor.Rset
namespace Go.Proofs.YtkgeiokckfpjlaaGreatDoor.Rset
set_option maxRecDepth 100000
open Go.RowKit
open Utf (Rd Blk wpList_append_rd own_ne)
theorem infoEd:(Tryz.prog.info? 298).map (fun i=>(i.zero,i.size,i.bytes))=some (some (.agg #[.int .i64 0,.int .i64 0,.int .i64 0]),3,24):=by kernel_rfl
def pre (a b:List Rg):Nat→List Ed
 | 0=>[(1114112,0,0)]
 | 1=>(1114112,0,0) :: edL 0 a
 | _=>edsF a b
structure EI (H:Nat) (w:World) (X:Option Addr) (l:List Rg) (sA sB:Value) (P:List Ed) (v:Value) (wi:World):Prop where
 own:wi.ownsRow H 298 3 v P.length (eds P)
 blk:Blk wi (H+1) 37 [sA,sB]
 bel:Below H w wi
 rd:Rd wi H X (rgs l)
section
variable {H:Nat} {w:World} {X:Option Addr} {l:List Rg} {sA sB v:Value} {P:List Ed} {wi:World}
theorem EI.size (h:EI H w X l sA sB P v wi) (hH:H≤w.heap.size):H≤wi.heap.size:=Nat.le_trans hH h.bel.size
theorem EI.next (h:EI H w X l sA sB P v wi) (hH:H≤w.heap.size) {v6:Value} {w6:World} {P':List Ed} (hg:wi.grownBy w6 v.ownBlock) (ho:w6.ownsRow H 298 3 v6 P'.length (eds P')):EI H w X l sA sB P' v6 w6 :=
 ⟨ho,h.blk.grown hg (fun e=>own_ne h.own h.blk (by decide) e.symm),h.bel.grown hg (h.size hH) (fun k hk=>(h.own.lt k hk).1),h.rd.grown hg (h.size hH) (fun k hk=>(h.own.lt k hk).1)⟩
theorem EI.keep (h:EI H w X l sA sB P v wi) (hH:H≤w.heap.size) {w6:World} (hb:Below wi.heap.size wi w6):EI H w X l sA sB P v w6 :=
 ⟨own_below h.own hb,h.blk.below hb h.blk.lt,h.bel.trans (hb.mono (h.size hH)),h.rd.below (hb.mono (h.size hH))⟩
end
def Edged (a b:List Rg) (w:World) (e:Ending) (w':World):Prop :=
 ∃g C es,e=.returned (.slice (some ⟨g,0,none⟩) es.length C)∧es.Perm (edsF a b)∧AscE es∧Rd w' w'.heap.size (some ⟨g,0,none⟩) (eds es)∧Below w.heap.size w w'∧w.heap.size≤g
set_option maxHeartbeats 4000000 in
theorem edges_any (A B:Option Addr) (a b:List Rg) (n m c d:Nat) (w:World) (ha:Rd w w.heap.size A (rgs a)) (hb:Rd w w.heap.size B (rgs b)) (hn:a.length=n) (hm:b.length=m) (fa:Fit a) (fb:Fit b) (hsm:n+m≤1073741824) :
  Calls Tryz.prog 302 #[.slice A n c,.slice B m d] w (Edged a b w):=by
 obtain ⟨i0,hi,hz0,hz1,hz2⟩:=info_parts infoEd
 have HA:=Lib.hid ha;have HBb:=Lib.hid hb;have HN:=Lib.hid hn;have HM:=Lib.hid hm;have HFA:=Lib.hid fa;have HFB:=Lib.hid fb
 clear ha hb hn hm fa fb
 go_enter Tryz.func302,Tryz.ntmps302
 go_wp2_with fail
 obtain ⟨H,hH⟩:∃H,H=w.heap.size:=⟨_,rfl⟩
 rw [←hH]
 obtain ⟨W0,hW0⟩:∃W0,W0=((w.alloc (.cells #[.int .i64 1114112,.int .i64 0,.int .i64 0] 298)).alloc (.cells #[.slice A n c,.slice B m d] 37)):=⟨_,rfl⟩
 rw [←hW0]
 have hsA:Hid (W0.ownsRow H 298 3 (.slice (some ⟨H,0,none⟩) 1 1) (pre a b 0).length (eds (pre a b 0))∧Blk W0 (H+1) 37 [.slice A n c,.slice B m d]∧Below H w W0):=by
  refine ⟨?_,?_,?_⟩
  ·rw [hW0]
   have:=World.ownsRow_lit w (e:=298) (size:=3) (base:=H) #[.int .i64 1114112,.int .i64 0,.int .i64 0] 1 (by omega) (by unfold maxLen;omega) rfl
   rw [←hH] at this
   exact this.alloc _
  ·have:=Blk.new (w.alloc (.cells #[.int .i64 1114112,.int .i64 0,.int .i64 0] 298)) 37 [.slice A n c,.slice B m d]
   rw [World.size_alloc,←hH] at this
   rw [hW0];exact this
  ·rw [hW0];exact ((Below.refl _ w).alloc (by omega) _).alloc (by simp;omega) _
 have HH:=Lib.hid hH
 clear hW0 hH
 go_loopw [5,18] (fun l i wr=>∃(j:Nat) (v:Value),j≤2∧i=.int .i64 j∧l=v∧Hid (wr.ownsRow H 298 3 v (pre a b j).length (eds (pre a b j))∧Blk wr (H+1) 37 [.slice A n c,.slice B m d]∧Below H w wr)) (fun _ i _=>2 - (intOf i).toNat)
 case atStart=>exact ⟨0,_,by omega,rfl,rfl,hsA⟩
 case round =>
  obtain ⟨j,v,hj,rfl,rfl,HI⟩:=hrel
  clear hsA
  by_cases hlt:j < 2
  ·have hls:Hid (∃(X:Option Addr) (p q:Nat) (l:List Rg),wr.cell? ⟨H+1,j,none⟩=some (.slice X p q)∧Rd wr H X (rgs l)∧l.length=p∧Fit l∧p≤n+m∧pre a b (j+1)=pre a b j++edL j l∧(pre a b j).length+2*p≤2*(n+m)+1):=by
    obtain ⟨_,h2,h3⟩:=HI.out
    have hN:=HN.out;have hM:=HM.out;have hHH:=HH.out
    have:j=0∨j=1:=by omega
    rcases this with rfl | rfl
    ·refine ⟨A,n,c,a,(h2.cell 0).trans rfl,hHH ▸ HA.out.below (hHH ▸ h3),hN,HFA.out,by omega,rfl,by simp [pre];omega⟩
    ·refine ⟨B,m,d,b,(h2.cell 1).trans rfl,hHH ▸ HBb.out.below (hHH ▸ h3),hM,HFB.out,by omega,rfl,by have:=edL_len 0 a;simp [pre];omega⟩
   obtain ⟨X,p,q,l,hcell,hrd,hl,hfit,hpn,hpre,hlen⟩:=hls.out
   have HR:=Lib.hid hrd;have HL:=Lib.hid hl;have HF:=Lib.hid hfit;have HP:=Lib.hid hpre;have HE:=Lib.hid hlen
   clear hrd hl hfit hpre hlen hls
   have hjd:decide ((j:Int) < 2)=true:=by rw [decide_eq_true_eq];omega
   go_wp2_with fail
   have hsI:Hid (EI H w X l (.slice A n c) (.slice B m d) (pre a b j++edL j (l.take 0)) u5 wr):=by
    rw [List.take_zero,edL_nil,List.append_nil];exact ⟨HI.out.1,HI.out.2.1,HI.out.2.2,HR.out⟩
   clear HI HR
   go_loopw [5,25] (fun l5 i wi=>∃(k:Nat) (v:Value),k≤p∧i=.int .i64 k∧l5=v∧Hid (EI H w X l (.slice A n c) (.slice B m d) (pre a b j++edL j (l.take k)) v wi)) (fun _ i _=>p - (intOf i).toNat)
   case atStart=>exact ⟨0,_,Nat.zero_le _,rfl,rfl,hsI⟩
   case round =>
    obtain ⟨k,v,hk,rfl,rfl,HJ⟩:=hrel
    clear hsI hcell
    have HHw:Hid (H≤w.heap.size):=Nat.le_of_eq HH.out
    by_cases hkl:k < p
    ·have hkL:k < l.length:=by rw [HL.out];exact hkl
     obtain ⟨xb,xo,rfl,hxb⟩:=rd_form_rg HJ.out.rd (by omega)
     obtain ⟨hc1,hc2⟩:=rd_rg HJ.out.rd hkL
     have HT:=Lib.hid (edL_take j l k hkL)
     have hft:=HF.out l[k] (List.getElem_mem hkL)
     have HE2:=Lib.hid (show (pre a b j++edL j (l.take k)).length≤2147483649 by have:=HE.out;have:=edL_len j (l.take k);rw [List.length_append];rw [List.length_take] at this;omega)
     generalize l[k]=r at hc1 hc2 HT hft
     obtain ⟨r1,r2⟩:=r
     dsimp only at hc1 hc2 hft
     have HH2:=Lib.hid (HJ.out.size HHw.out)
     clear hkL
     obtain ⟨lo,hlo⟩:∃lo,(if r1 < 0 then (0:Int) else r1)=lo:=⟨_,rfl⟩
     obtain ⟨hh,hhi⟩:∃hh,(if 1114111 < r2 then (1114111:Int) else r2)=hh:=⟨_,rfl⟩
     have hlo2:max r1 0=lo:=by rw [←hlo];split <;> omega
     have hhi2:min r2 1114111=hh:=by rw [←hhi];split <;> omega
     have HLO:=Lib.hid hlo2.symm
     have HHI:=Lib.hid hhi2.symm
     by_cases hle:lo≤hh
     ·have HED:=Lib.hid (show edL j (l.take (k+1))=edL j (l.take k)++[(lo,(j:Int),1),(hh+1,(j:Int),-1)] by
       rw [HT.out];unfold edF;rw [if_pos (by have:=HLO.out;have:=HHI.out;simp only [];omega),HLO.out,HHI.out])
      have e1:IntKind.i64.wrap lo=lo:=IntWalk.i64_in _ (by have:=HLO.out;omega)
      have e2:IntKind.i64.wrap hh=hh:=IntWalk.i64_in _ (by have:=HHI.out;omega)
      have e3:IntKind.i64.wrap (hh+1)=hh+1:=IntWalk.i64_in _ (by have:=HHI.out;omega)
      clear HT
      go_wp2_with fail
      go_quiet (fail)
      go_wp2_with (at_builtin;refine wpList_append_rd _ rfl (.tmp 38) (.tmp 48) _ rfl H 298 i0 _ 3 24 Tryz.underlying295 hi hz0 hz1 hz2 rfl (by decide) u5 (pre a b j++edL j (l.take k)).length (eds (pre a b j++edL j (l.take k))) rfl ((HJ.out.own.alloc _).alloc _) _ (some ⟨wr.heap.size+1,0,none⟩) 2 2 (eds [(lo,(j:Int),1),(hh+1,(j:Int),-1)]) rfl rfl (rd_new _ _ (eds [(lo,(j:Int),1),(hh+1,(j:Int),-1)]) _ (by simp)) (eds_one _) (by have:=HE2.out;unfold maxLen;omega) (by have:=HE2.out;omega) (by have:=HH2.out;simp;omega) ?_;intro v6 w6 hown6 hgr6 _)
      have HN6:Hid (EI H w (some ⟨xb,xo,none⟩) l (.slice A n c) (.slice B m d) (pre a b j++edL j (l.take (k+1))) v6 w6):=by
       refine HJ.out.next HHw.out ((((grownBy_alloc wr _ _).trans (grownBy_drewN _ nq _)).trans (grownBy_alloc _ _ _)).trans hgr6) ?_
       rw [HED.out,←List.append_assoc,eds_append,List.length_append]
       exact hown6
      clear hown6 hgr6
      go_roundw
      case rel=>exact ⟨k+1,_,by omega,by go_num,rfl,HN6⟩
      case measure=>simp [intOf];omega
     ·have HED:=Lib.hid (show edL j (l.take (k+1))=edL j (l.take k) by
       rw [HT.out];unfold edF;rw [if_neg (by have:=HLO.out;have:=HHI.out;simp only [];omega),List.append_nil])
      have hle2:hh < lo:=by omega
      clear HT
      go_wp2_with fail
      go_quiet (fail)
      go_wp2_with fail
      have HN6:Hid (EI H w (some ⟨xb,xo,none⟩) l (.slice A n c) (.slice B m d) (pre a b j++edL j (l.take (k+1))) u5 ((wr.alloc (.cells #[.int .i32 r1,.int .i32 r2] 48)).drewN nq)):=by
       rw [HED.out]
       exact HJ.out.keep HHw.out (below_drewN ((Below.refl _ wr).alloc (Nat.le_refl _) _) nq)
      go_roundw
      case rel=>exact ⟨k+1,_,by omega,by go_num,rfl,HN6⟩
      case measure=>simp [intOf];omega
    ·have HN6:Hid (EI H w X l (.slice A n c) (.slice B m d) (pre a b (j+1)) u5 wr):=by
      have hkp:k=p:=by omega
      have h:=HJ.out
      rw [hkp,←HL.out,List.take_length,←HP.out] at h
      exact h
     clear HJ
     go_wp2_with fail
     go_roundw
     case rel=>exact ⟨j+1,_,by omega,by go_num,rfl,HN6.out.own,HN6.out.blk,HN6.out.bel⟩
     case measure=>simp [intOf];omega
  ·have hj2:j=2:=by omega
   subst hj2
   obtain ⟨ho,_,hbl⟩:=HI.out
   have hpos:0 < (edsF a b).length:=by unfold edsF;simp
   have hel:=edsF_len a b
   change wr.ownsRow H 298 3 u5 (edsF a b).length (eds (edsF a b)) at ho
   obtain ⟨g,cap,hv,hgH,hglt⟩:=ho.form hpos
   subst hv
   have HS:=Lib.hid (sort_any H g cap _ _ wr ho hglt (by have:=HN.out;have:=HM.out;omega))
   have HBl:=Lib.hid hbl
   have HHw:Hid (H≤wr.heap.size):=Nat.le_trans (Nat.le_of_eq HH.out) hbl.size
   clear hlt hj hsm ho hbl HI hpos hel
   generalize hL:(edsF a b).length=L at HS
   have HL:=Lib.hid hL
   clear hL
   go_wp2_with fail
   refine HS.out.mono ?_
   rintro e w2 ⟨rfl,d,hp,hs,hr,hg⟩
   have HR:=Lib.hid hr
   have HG:=Lib.hid hg
   have HP:=Lib.hid hp
   have HA2:=Lib.hid hs
   clear hr hg hp hs
   go_wp2_with fail
   go_ret
   refine ⟨g,cap,d,?_,HP.out,HA2.out,HR.out,?_⟩
   ·rw [HP.out.length_eq,HL.out];rfl
   ·have:=HBl.out.grown HG.out HHw.out (fun k hk=>by injection hk with hk;omega)
    rw [HH.out] at this
    exact ⟨this,by have:=HH.out;omega⟩
end Go.Proofs.YtkgeiokckfpjlaaGreatDoor.Rset
namespace Go.Proofs.YtkgeiokckfpjlaaGreatDoor.Rset
set_option maxRecDepth 100000
open Go.RowKit
open Utf (Rd Blk wpList_append_rd own_ne)
structure OI (H E0:Nat) (w:World) (fv:Value) (A:Option Addr) (es:List Ed) (s:St) (v:Value) (W:World):Prop where
 own:W.ownsRow E0 48 2 v s.L.length (rgs s.L)
 rd:Rd W E0 A (eds es)
 blkS:Blk W H 284 [fv]
 blkH:Blk W (H+1) 294 [.int .i64 s.h0,.int .i64 s.h1]
 bel:Below H w W
 size:E0≤W.heap.size
section
variable {H E0:Nat} {w:World} {fv:Value} {A:Option Addr} {es:List Ed} {L:List Rg} {f h0 h1:Int} {v:Value} {W W':World}
theorem OI.base (h:OI H E0 w fv A es ⟨L,f,h0,h1⟩ v W) (f':Int):OI H E0 w fv A es ⟨L,f',h0,h1⟩ v W:=⟨h.own,h.rd,h.blkS,h.blkH,h.bel,h.size⟩
theorem OI.alloc (h:OI H E0 w fv A es ⟨L,f,h0,h1⟩ v W) (hE:H+2≤E0) (o:Obj):OI H E0 w fv A es ⟨L,f,h0,h1⟩ v (W.alloc o) :=
 ⟨h.own.alloc o,h.rd.alloc h.size o,h.blkS.alloc o,h.blkH.alloc o,h.bel.alloc (by have:=h.size;omega) o,by have:=h.size;simp;omega⟩
theorem OI.drew (h:OI H E0 w fv A es ⟨L,f,h0,h1⟩ v W):OI H E0 w fv A es ⟨L,f,h0,h1⟩ v W.drew:=⟨h.own,h.rd,h.blkS,h.blkH,⟨h.bel.os,h.bel.tape,h.bel.output,h.bel.size,h.bel.block⟩,h.size⟩
theorem OI.next (h:OI H E0 w fv A es ⟨L,f,h0,h1⟩ v W) (hE:H+2≤E0) {L':List Rg} {v':Value} (hg:W.grownBy W' v.ownBlock) (ho:W'.ownsRow E0 48 2 v' L'.length (rgs L')):OI H E0 w fv A es ⟨L',f,h0,h1⟩ v' W' :=
 ⟨ho,h.rd.grown hg h.size (fun k hk=>(h.own.lt k hk).1),h.blkS.grown hg (fun e=>by have:=(h.own.lt H e.symm).1;omega),h.blkH.grown hg (fun e=>by have:=(h.own.lt (H+1) e.symm).1;omega),
  h.bel.grown hg (by have:=h.size;omega) (fun k hk=>by have:=(h.own.lt k hk).1;omega),Nat.le_trans h.size hg.size⟩
theorem OI.own_ne (h:OI H E0 w fv A es ⟨L,f,h0,h1⟩ v W) (hE:H+2≤E0):v.ownBlock=none∨v.ownBlock≠some (H+1):=.inr fun e=>by have:=(h.own.lt (H+1) e).1;omega
theorem OI.set0 (h:OI H E0 w fv A es ⟨L,f,h0,h1⟩ v W) (hE:H+2≤E0) (hn:∀k,A=some k→H+1≠k.block) (z:Int):OI H E0 w fv A es ⟨L,f,z,h1⟩ v (W.setCell ⟨H+1,0,none⟩ (.int .i64 z)) :=
 ⟨h.own.kept (grownBy_setCell W (H+1) 0 _) (h.own_ne hE),fun hne=>by
   obtain ⟨b,o,e,hb,hc⟩:=h.rd hne
   exact ⟨b,o,e,hb,fun j u hu=>(World.cell?_of_block (Below.heap_setCell _ _ _ _ (fun e2=>hn _ e e2.symm))).trans (hc j u hu)⟩,
  h.blkS.far (by show H≠H+1;omega) _,h.blkH.set_ 0 _,h.bel.setCell (by show H≤H+1;omega) _,by rw [show (W.setCell ⟨H+1,0,none⟩ (.int .i64 z)).heap.size=W.heap.size by simp];exact h.size⟩
theorem OI.set1 (h:OI H E0 w fv A es ⟨L,f,h0,h1⟩ v W) (hE:H+2≤E0) (hn:∀k,A=some k→H+1≠k.block) (z:Int):OI H E0 w fv A es ⟨L,f,h0,z⟩ v (W.setCell ⟨H+1,1,none⟩ (.int .i64 z)) :=
 ⟨h.own.kept (grownBy_setCell W (H+1) 1 _) (h.own_ne hE),fun hne=>by
   obtain ⟨b,o,e,hb,hc⟩:=h.rd hne
   exact ⟨b,o,e,hb,fun j u hu=>(World.cell?_of_block (Below.heap_setCell _ _ _ _ (fun e2=>hn _ e e2.symm))).trans (hc j u hu)⟩,
  h.blkS.far (by show H≠H+1;omega) _,h.blkH.set_ 1 _,h.bel.setCell (by show H≤H+1;omega) _,by rw [show (W.setCell ⟨H+1,1,none⟩ (.int .i64 z)).heap.size=W.heap.size by simp];exact h.size⟩
theorem OI.joined (h:OI H E0 w fv A es ⟨L,f,h0,h1⟩ v W) (hE:H+2≤E0) {e1 e2 e3:Int} {L':List Rg} {v':Value} (hg:(W.alloc (.cells #[.int .i64 e1,.int .i64 e2,.int .i64 e3] 298)).grownBy W' v.ownBlock) (ho:W'.ownsRow E0 48 2 v' L'.length (rgs L')) :
  Hid (OI H E0 w fv A es ⟨L',f,h0,h1⟩ v' W')∧W'.cell? ⟨W.heap.size,0,none⟩=some (.int .i64 e1)∧W'.cell? ⟨W.heap.size,1,none⟩=some (.int .i64 e2)∧W'.cell? ⟨W.heap.size,2,none⟩=some (.int .i64 e3) ∧
   W'.cell? ⟨H+1,0,none⟩=some (.int .i64 h0)∧W'.cell? ⟨H+1,1,none⟩=some (.int .i64 h1)∧W'.frozen? ⟨H+1,0,none⟩=false∧W'.frozen? ⟨H+1,1,none⟩=false:=by
 have hA:=h.alloc hE (.cells #[.int .i64 e1,.int .i64 e2,.int .i64 e3] 298)
 have hN:=hA.next hE hg ho
 have hB:Blk (W.alloc (.cells #[.int .i64 e1,.int .i64 e2,.int .i64 e3] 298)) W.heap.size 298 [.int .i64 e1,.int .i64 e2,.int .i64 e3]:=Blk.new W _ [.int .i64 e1,.int .i64 e2,.int .i64 e3]
 have hB':=hB.grown hg (fun e=>Utf.own_ne hA.own hB (by decide) e.symm)
 exact ⟨hN,hB'.cell 0,hB'.cell 1,hB'.cell 2,hN.blkH.cell 0,hN.blkH.cell 1,hN.blkH.frozen 0,hN.blkH.frozen 1⟩
end
set_option maxHeartbeats 4000000 in
theorem over_any (keep:Bool→Bool→Bool) (g:Nat) (eg:∀args w,(callFunc g args).run Tryz.prog w=.ok (.enter g args) w) (hk:∀(p q:Bool) (u:World),Calls Tryz.prog g #[.bool p,.bool q] u fun e w'=>e=.returned (.bool (keep p q))∧u=w')
  (A B:Option Addr) (a b:List Rg) (n m c d:Nat) (w:World) (ha:Rd w w.heap.size A (rgs a)) (hb:Rd w w.heap.size B (rgs b)) (hn:a.length=n) (hm:b.length=m) (fa:Fit a) (fb:Fit b) (hsm:n+m≤134217728) :
  Calls Tryz.prog 286 #[.agg #[.func (.func g) #[] #[]],.slice A n c,.slice B m d] w (Own w (nl fun x=>keep (has a x) (has b x))):=by
 obtain ⟨H,hH⟩:∃H,H=w.heap.size:=⟨_,rfl⟩
 obtain ⟨W0,hW0⟩:∃W0,W0=((w.alloc (.cells #[.func (.func g) #[] #[]] 284)).alloc (.cells #[.int .i64 0,.int .i64 0] 294)):=⟨_,rfl⟩
 have hb0:Below H w W0:=by rw [hW0];exact ((Below.refl _ w).alloc (by omega) _).alloc (by simp;omega) _
 have hs0:W0.heap.size=H+2:=by rw [hW0,hH];simp
 have B1:=Lib.hid (show Blk W0 H 284 [.func (.func g) #[] #[]] by rw [hW0,hH];exact (Blk.new w _ [.func (.func g) #[] #[]]).alloc _)
 have B2:=Lib.hid (show Blk W0 (H+1) 294 [.int .i64 0,.int .i64 0] by
  have:=Blk.new (w.alloc (.cells #[.func (.func g) #[] #[]] 284)) 294 [.int .i64 0,.int .i64 0]
  rw [World.size_alloc,←hH] at this
  rw [hW0];exact this)
 have HE:=Lib.hid (edges_any A B a b n m c d W0 ((ha.below (hH ▸ hb0)).more (by omega)) ((hb.below (hH ▸ hb0)).more (by omega)) hn hm fa fb (by omega))
 have HL:=Lib.hid (show 2*(a.length+b.length)+1≤268435457 by omega)
 have HK:=Lib.hid hk
 have HB0:=Lib.hid hb0
 have HH:=Lib.hid hH
 clear ha hb hn hm fa fb hsm hb0 hk
 go_enter Tryz.func286,Tryz.ntmps286
 go_wp2_with fail
 rw [←hW0,←hH]
 clear hH
 refine HE.out.mono ?_
 rintro e W1 ⟨ge,C,es,rfl,hp,ha,hr,hb,hgl⟩
 obtain ⟨E0,hE0⟩:∃E0,E0=W1.heap.size:=⟨_,rfl⟩
 have hE2:H+2≤E0:=by rw [hE0,←hs0];exact hb.size
 have hNL:es.length≤268435457:=by have:=edsF_len a b;have:=HL.out;have:=hp.length_eq;omega
 obtain ⟨N,hN⟩:∃N,N=es.length:=⟨_,rfl⟩
 have hOI:Hid (OI H E0 w (.func (.func g) #[] #[]) (some ⟨ge,0,none⟩) es (swp keep (es.take 0)) (.slice none 0 0) W1):=by
  refine ⟨World.ownsRow_nil _ _ _ _,hE0 ▸ hr,B1.out.below hb B1.out.lt,B2.out.below hb B2.out.lt,HB0.out.trans (hb.mono (by omega)),Nat.le_of_eq hE0⟩
 have HP:=Lib.hid hp
 have HA:=Lib.hid ha
 have HN:=Lib.hid hN
 rw [←hN] at hNL ⊢
 clear hp ha hr hb hN hW0 hE0 HE B1 B2 HB0 HL
 have HE2:=Lib.hid hE2
 have HG:=Lib.hid (show ∀k:Addr,some (⟨ge,0,none⟩:Addr)=some k→H+1≠k.block from fun k hk=>by injection hk with hk;subst hk;show H+1≠ge;omega)
 clear hE2 hgl hs0 W0
 go_wp2_with fail
 go_loopw [7,9,16] (fun l fr i wr=>∃(k:Nat) (v:Value) (f:Int),k≤N∧i=.int .i64 k∧l=v∧fr=.int .i64 f∧Hid (f=(swp keep (es.take k)).fr)∧Hid (OI H E0 w (.func (.func g) #[] #[]) (some ⟨ge,0,none⟩) es (swp keep (es.take k)) v wr)) (fun _ _ i _=>N - (intOf i).toNat)
 case atStart=>exact ⟨0,_,0,Nat.zero_le _,rfl,rfl,rfl,Lib.hid rfl,hOI⟩
 case round =>
  obtain ⟨k,v,f,hk,rfl,rfl,rfl,HF,HI⟩:=hrel
  clear hOI
  by_cases hkN:k < N
  ·have hkL:k < es.length:=by rw [←HN.out];exact hkN
   obtain ⟨c0,c1,c2⟩:=rd_ed HI.out.rd hkL
   rw [Nat.zero_add] at c0 c1 c2
   have HT:=Lib.hid (swp_take keep es k hkL)
   have HV:=edsF_val a b es[k] (HP.out.mem_iff.1 (List.getElem_mem hkL))
   have HI2:=swp_inv keep HP.out HA.out k (by omega)
   obtain ⟨x1,x2,x3,x4⟩:=swp_facts keep HP.out HA.out k (by omega)
   have hfm:=HF.out
   have hb0:=HI.out.blkH.cell 0
   have hb1:=HI.out.blkH.cell 1
   have hbS:=HI.out.blkS.cell 0
   have hbf:=HI.out.blkH.frozen
   generalize swp keep (es.take k)=s at *
   generalize es[k]=ed at *
   obtain ⟨e1,e2,e3⟩:=ed
   obtain ⟨L,fr,h0,h1⟩:=s
   dsimp only at *
   subst hfm
   have HI3:=Lib.hid HI2
   clear HI2 HF
   obtain ⟨⟨v1,v2⟩,v3,v4,v5⟩:=HV
   dsimp only at v1 v2 v3 v4 v5
   have hb0':wr.cell? ⟨H+1,0,none⟩=some (.int .i64 h0):=hb0
   have hb1':wr.cell? ⟨H+1,1,none⟩=some (.int .i64 h1):=hb1
   have hbS':wr.cell? ⟨H,0,none⟩=some (.func (.func g) #[] #[]):=hbS
   have hf0:=hbf 0
   have hf1:=hbf 1
   have hge:ge < E0:=by
    obtain ⟨b',o',e,hb',_⟩:=HI.out.rd (by intro e;have:=congrArg List.length e;rw [eds_len,List.length_nil] at this;omega)
    cases e;exact hb'
   have hsz:=HI.out.size
   clear hb0 hb1 hbS hbf
   obtain ⟨kp,hkp⟩:∃kp,kp=keep (decide (0 < h0)) (decide (0 < h1)):=⟨_,rfl⟩
   have HC:=Lib.hid (fun u=>HK.out (decide (0 < h0)) (decide (0 < h1)) u)
   rw [←hkp] at HC
   have HKP:=Lib.hid hkp
   clear hkp hkL
   have w1:IntKind.i64.wrap (h0+e3)=h0+e3:=IntWalk.i64_in _ (by omega)
   have w2:IntKind.i64.wrap (h1+e3)=h1+e3:=IntWalk.i64_in _ (by omega)
   have n1:H+1 < wr.heap.size:=by have:=HE2.out;omega
   have n2:ge < wr.heap.size:=by omega
   have n0:H < wr.heap.size:=by omega
   have m1:IntKind.i32.wrap f=f:=IntWalk.i32_in _ (by omega)
   have m2:IntKind.i64.wrap (e1 - 1)=e1 - 1:=IntWalk.i64_in _ (by omega)
   have m3:IntKind.i32.wrap (e1 - 1)=e1 - 1:=IntWalk.i32_in _ (by omega)
   have HIA:=Lib.hid (HI.out.alloc HE2.out (.cells #[.int .i64 e1,.int .i64 e2,.int .i64 e3] 298))
   by_cases hlt:f < e1
   ·have hltd:decide (f < e1)=true:=decide_eq_true hlt
    cases kp with
    | true =>
     have HJ:=Lib.hid (join_any E0 u7 L f (e1 - 1) (wr.alloc (.cells #[.int .i64 e1,.int .i64 e2,.int .i64 e3] 298)) HIA.out.own HIA.out.size (by omega) (fun r hr=>by have h1:=HI3.out.lt r hr;have h2:=HI3.out.nm.ok r hr;dsimp only at h1;omega))
     have HS:=Lib.hid (show swp keep (es.take (k+1))=⟨joinF L (f,e1 - 1),e1,h0+(if e2=0 then e3 else 0),h1+(if e2=1 then e3 else 0)⟩ by
      rw [HT.out];unfold stp;rw [if_pos ⟨hlt,HKP.out.symm⟩])
     clear HT hlt
     rcases v3 with rfl | rfl
     ·go_wp2_with (first | (go_at_fn g;refine (HC.out _).mono ?_;rintro e w' ⟨rfl,rfl⟩) | (go_at_call 303;refine HJ.out.mono ?_;rintro e w6 ⟨v6,rfl,ho6,hg6⟩;obtain ⟨HIB,q0,q1,q2,q3,q4,q5,q6⟩:=HI.out.joined HE2.out hg6 ho6;clear ho6 hg6))
      go_region
      have HN2:Hid (OI H E0 w (.func (.func g) #[] #[]) (some ⟨ge,0,none⟩) es (swp keep (es.take (k+1))) v6 ((w6.setCell ⟨H+1,0,none⟩ (.int .i64 (h0+e3))).drew)):=by
       rw [HS.out];simp only [Int.reduceEq,if_true,if_false,Int.add_zero]
       exact ((HIB.out.set0 HE2.out HG.out (h0+e3)).base e1).drew
      have HF2:Hid (e1=(swp keep (es.take (k+1))).fr):=by rw [HS.out];exact Lib.hid rfl
      go_wp2_with fail
      go_roundw
      case rel=>exact ⟨k+1,_,_,by omega,by go_num,rfl,rfl,HF2,HN2⟩
      case measure=>simp [intOf];omega
     ·go_wp2_with (first | (go_at_fn g;refine (HC.out _).mono ?_;rintro e w' ⟨rfl,rfl⟩) | (go_at_call 303;refine HJ.out.mono ?_;rintro e w6 ⟨v6,rfl,ho6,hg6⟩;obtain ⟨HIB,q0,q1,q2,q3,q4,q5,q6⟩:=HI.out.joined HE2.out hg6 ho6;clear ho6 hg6))
      go_region
      have HN2:Hid (OI H E0 w (.func (.func g) #[] #[]) (some ⟨ge,0,none⟩) es (swp keep (es.take (k+1))) v6 ((w6.setCell ⟨H+1,1,none⟩ (.int .i64 (h1+e3))).drew)):=by
       rw [HS.out];simp only [Int.reduceEq,if_true,if_false,Int.add_zero]
       exact ((HIB.out.set1 HE2.out HG.out (h1+e3)).base e1).drew
      have HF2:Hid (e1=(swp keep (es.take (k+1))).fr):=by rw [HS.out];exact Lib.hid rfl
      go_wp2_with fail
      go_roundw
      case rel=>exact ⟨k+1,_,_,by omega,by go_num,rfl,rfl,HF2,HN2⟩
      case measure=>simp [intOf];omega
    | false =>
     have HS:=Lib.hid (show swp keep (es.take (k+1))=⟨L,e1,h0+(if e2=0 then e3 else 0),h1+(if e2=1 then e3 else 0)⟩ by
      rw [HT.out];unfold stp;rw [if_neg (fun h=>by have:=h.2;rw [←HKP.out] at this;cases this)])
     clear HT hlt
     rcases v3 with rfl | rfl
     ·go_wp2_with (go_at_fn g;refine (HC.out _).mono ?_;rintro e w' ⟨rfl,rfl⟩)
      go_region
      have HN2:Hid (OI H E0 w (.func (.func g) #[] #[]) (some ⟨ge,0,none⟩) es (swp keep (es.take (k+1))) u7 (((wr.setCell ⟨H+1,0,none⟩ (.int .i64 (h0+e3))).alloc (.cells #[.int .i64 e1,.int .i64 0,.int .i64 e3] 298)).drew)):=by
       rw [HS.out];simp only [Int.reduceEq,if_true,if_false,Int.add_zero]
       exact (((HI.out.set0 HE2.out HG.out (h0+e3)).base e1).alloc HE2.out _).drew
      have HF2:Hid (e1=(swp keep (es.take (k+1))).fr):=by rw [HS.out];exact Lib.hid rfl
      go_wp2_with fail
      go_roundw
      case rel=>exact ⟨k+1,_,_,by omega,by go_num,rfl,rfl,HF2,HN2⟩
      case measure=>simp [intOf];omega
     ·go_wp2_with (go_at_fn g;refine (HC.out _).mono ?_;rintro e w' ⟨rfl,rfl⟩)
      go_region
      have HN2:Hid (OI H E0 w (.func (.func g) #[] #[]) (some ⟨ge,0,none⟩) es (swp keep (es.take (k+1))) u7 (((wr.setCell ⟨H+1,1,none⟩ (.int .i64 (h1+e3))).alloc (.cells #[.int .i64 e1,.int .i64 1,.int .i64 e3] 298)).drew)):=by
       rw [HS.out];simp only [Int.reduceEq,if_true,if_false,Int.add_zero]
       exact (((HI.out.set1 HE2.out HG.out (h1+e3)).base e1).alloc HE2.out _).drew
      have HF2:Hid (e1=(swp keep (es.take (k+1))).fr):=by rw [HS.out];exact Lib.hid rfl
      go_wp2_with fail
      go_roundw
      case rel=>exact ⟨k+1,_,_,by omega,by go_num,rfl,rfl,HF2,HN2⟩
      case measure=>simp [intOf];omega
   ·have hltd:decide (f < e1)=false:=decide_eq_false hlt
    have HS:=Lib.hid (show swp keep (es.take (k+1))=⟨L,e1,h0+(if e2=0 then e3 else 0),h1+(if e2=1 then e3 else 0)⟩ by
     rw [HT.out];unfold stp;rw [if_neg (fun h=>hlt h.1)])
    clear HT hlt
    rcases v3 with rfl | rfl
    ·go_wp2_with fail
     go_region
     have HN2:Hid (OI H E0 w (.func (.func g) #[] #[]) (some ⟨ge,0,none⟩) es (swp keep (es.take (k+1))) u7 (((wr.setCell ⟨H+1,0,none⟩ (.int .i64 (h0+e3))).alloc (.cells #[.int .i64 e1,.int .i64 0,.int .i64 e3] 298)).drew)):=by
      rw [HS.out];simp only [Int.reduceEq,if_true,if_false,Int.add_zero]
      exact (((HI.out.set0 HE2.out HG.out (h0+e3)).base e1).alloc HE2.out _).drew
     have HF2:Hid (e1=(swp keep (es.take (k+1))).fr):=by rw [HS.out];exact Lib.hid rfl
     go_wp2_with fail
     go_roundw
     case rel=>exact ⟨k+1,_,_,by omega,by go_num,rfl,rfl,HF2,HN2⟩
     case measure=>simp [intOf];omega
    ·go_wp2_with fail
     go_region
     have HN2:Hid (OI H E0 w (.func (.func g) #[] #[]) (some ⟨ge,0,none⟩) es (swp keep (es.take (k+1))) u7 (((wr.setCell ⟨H+1,1,none⟩ (.int .i64 (h1+e3))).alloc (.cells #[.int .i64 e1,.int .i64 1,.int .i64 e3] 298)).drew)):=by
      rw [HS.out];simp only [Int.reduceEq,if_true,if_false,Int.add_zero]
      exact (((HI.out.set1 HE2.out HG.out (h1+e3)).base e1).alloc HE2.out _).drew
     have HF2:Hid (e1=(swp keep (es.take (k+1))).fr):=by rw [HS.out];exact Lib.hid rfl
     go_wp2_with fail
     go_roundw
     case rel=>exact ⟨k+1,_,_,by omega,by go_num,rfl,rfl,HF2,HN2⟩
     case measure=>simp [intOf];omega
  ·have HO:=Lib.hid (show wr.ownsRow w.heap.size 48 2 u7 (nl fun x=>keep (has a x) (has b x)).length (rgs (nl fun x=>keep (has a x) (has b x)))∧Below w.heap.size w wr from by
    have hkN2:k=N:=by omega
    have h:=HI.out
    rw [hkN2,HN.out,List.take_length] at h
    have hs:=swp_all keep HP.out HA.out
    have ho:=h.own
    rw [hs] at ho
    exact ⟨own_mono ho (by have:=HE2.out;have:=HH.out;omega),HH.out ▸ h.bel⟩)
   clear HI HF
   go_wp2_with fail
   go_ret
   exact ⟨_,rfl,HO.out.1,HO.out.2⟩
end Go.Proofs.YtkgeiokckfpjlaaGreatDoor.Rset
namespace Go.Proofs.YtkgeiokckfpjlaaGreatDoor.Rset
set_option maxRecDepth 100000
open Go.RowKit
open Utf (Rd Blk wpList_append_rd own_ne)
theorem uni_keep (p q:Bool) (u:World):Calls Tryz.prog 301 #[.bool p,.bool q] u fun e w'=>e=.returned (.bool (p || q))∧u=w':=by
 cases p <;> cases q <;> go_enter Tryz.func301,Tryz.ntmps301 <;> go_wp2 <;> go_ret <;> exact ⟨rfl,rfl⟩
theorem meet_keep (p q:Bool) (u:World):Calls Tryz.prog 320 #[.bool p,.bool q] u fun e w'=>e=.returned (.bool (p && q))∧u=w':=by
 cases p <;> cases q <;> go_enter Tryz.func320,Tryz.ntmps320 <;> go_wp2 <;> go_ret <;> exact ⟨rfl,rfl⟩
theorem compl_keep (p q:Bool) (u:World):Calls Tryz.prog 285 #[.bool p,.bool q] u fun e w'=>e=.returned (.bool (!p))∧u=w':=by
 cases p <;> cases q <;> go_enter Tryz.func285,Tryz.ntmps285 <;> go_wp2 <;> go_ret <;> exact ⟨rfl,rfl⟩
set_option maxHeartbeats 1000000 in
theorem uni_any (A B:Option Addr) (a b:List Rg) (n m c d:Nat) (w:World) (ha:Rd w w.heap.size A (rgs a)) (hb:Rd w w.heap.size B (rgs b)) (hn:a.length=n) (hm:b.length=m) (fa:Fit a) (fb:Fit b) (hsm:n+m≤134217728) :
  Calls Tryz.prog 284 #[.slice A n c,.slice B m d] w (Own w (uni a b)):=by
 have HC:=Lib.hid (over_any _ 301 (enters_of Tryz.func301 (by kernel_rfl) rfl) uni_keep A B a b n m c d w ha hb hn hm fa fb hsm)
 clear ha hb hn hm fa fb hsm
 go_enter Tryz.func284,Tryz.ntmps284
 go_wp2_with fail
 refine HC.out.mono ?_
 rintro e w1 ⟨v,rfl,ho,hb⟩
 have HO:=Lib.hid ho
 have HB:=Lib.hid hb
 clear ho hb
 go_wp2_with fail
 go_ret
 exact ⟨v,rfl,HO.out,HB.out⟩
set_option maxHeartbeats 1000000 in
theorem meet_any (A B:Option Addr) (a b:List Rg) (n m c d:Nat) (w:World) (ha:Rd w w.heap.size A (rgs a)) (hb:Rd w w.heap.size B (rgs b)) (hn:a.length=n) (hm:b.length=m) (fa:Fit a) (fb:Fit b) (hsm:n+m≤134217728) :
  Calls Tryz.prog 309 #[.slice A n c,.slice B m d] w (Own w (meet a b)):=by
 have HC:=Lib.hid (over_any _ 320 (enters_of Tryz.func320 (by kernel_rfl) rfl) meet_keep A B a b n m c d w ha hb hn hm fa fb hsm)
 clear ha hb hn hm fa fb hsm
 go_enter Tryz.func309,Tryz.ntmps309
 go_wp2_with fail
 refine HC.out.mono ?_
 rintro e w1 ⟨v,rfl,ho,hb⟩
 have HO:=Lib.hid ho
 have HB:=Lib.hid hb
 clear ho hb
 go_wp2_with fail
 go_ret
 exact ⟨v,rfl,HO.out,HB.out⟩
def eqL (a b:List Rg):Bool:=decide (a=b)
theorem take_succ_eq {a b:List Rg} {k:Nat} (ha:k < a.length) (hb:k < b.length) (h:a.take k=b.take k):a[k]=b[k]→a.take (k+1)=b.take (k+1):=fun e=>by
 rw [List.take_succ_eq_append_getElem ha,List.take_succ_eq_append_getElem hb,h,e]
set_option maxHeartbeats 2000000 in
theorem same_any (A B:Option Addr) (a b:List Rg) (n m c d:Nat) (w:World) (ha:Rd w w.heap.size A (rgs a)) (hb:Rd w w.heap.size B (rgs b)) (hn:a.length=n) (hm:b.length=m) (hn1:n≤1099511627776) (hm1:m≤1099511627776) :
  Calls Tryz.prog 54 #[.slice A n c,.slice B m d] w fun e w'=>e=.returned (.bool (eqL a b))∧∃k,w'=w.drewN k:=by
 suffices H:Calls Tryz.prog 54 #[.slice A n c,.slice B m d] w (fun e w'=>Hid (e=.returned (.bool (eqL a b))∧∃k,w'=w.drewN k)) from H.mono fun e w' h=>h.out
 by_cases hnm:n=m
 ·subst hnm
  have HN:=Lib.hid hn;have HM:=Lib.hid hm
  clear hn hm
  go_enter Tryz.func54,Tryz.ntmps54
  go_wp2_with fail
  go_loopw [5] (fun i wr=>∃k j:Nat,k≤n∧i=.int .i64 k∧Hid (a.take k=b.take k)∧Hid (wr=w.drewN j)) (fun i _=>n - (intOf i).toNat)
  case atStart=>exact ⟨0,0,Nat.zero_le _,rfl,Lib.hid rfl,Lib.hid rfl⟩
  case round =>
   obtain ⟨k,j,hk,rfl,HT,HJ⟩:=hrel
   by_cases hlt:k < n
   ·have hka:k < a.length:=by rw [HN.out];exact hlt
    have hkb:k < b.length:=by rw [HM.out];exact hlt
    obtain ⟨ba,oa,rfl,_⟩:=rd_form_rg ha (by omega)
    obtain ⟨bb,ob,rfl,_⟩:=rd_form_rg hb (by omega)
    have hwr:∀p:Addr,wr.cell? p=w.cell? p:=fun p=>by rw [HJ.out];rfl
    obtain ⟨a1,a2⟩:=rd_rg ha hka
    obtain ⟨b1,b2⟩:=rd_rg hb hkb
    rw [←hwr] at a1 a2 b1 b2
    have HTS:=Lib.hid (take_succ_eq hka hkb HT.out)
    have HNE:=Lib.hid (show a[k]≠b[k]→eqL a b=false from fun h=>by unfold eqL;rw [decide_eq_false_iff_not];rintro rfl;exact h rfl)
    generalize a[k]=x at a1 a2 HTS HNE
    generalize b[k]=y at b1 b2 HTS HNE
    obtain ⟨x1,x2⟩:=x
    obtain ⟨y1,y2⟩:=y
    dsimp only at a1 a2 b1 b2
    clear hwr HT hka hkb
    by_cases hxy:x1=y1∧x2=y2
    ·obtain ⟨rfl,rfl⟩:=hxy
     have hq:∀u:World,(binOp .neq 48 (.agg #[.int .i32 x1,.int .i32 x2]) (.agg #[.int .i32 x1,.int .i32 x2])).run Tryz.prog u=.ok (.bool false) u:=fun u=>by rw [neq_rg];simp
     go_wp2_with fail
     go_quiet (fail)
     go_wp2_with fail
     go_roundw
     case rel=>exact ⟨k+1,_,by omega,by go_num,Lib.hid (HTS.out trivial),Lib.hid (by rw [HJ.out,World.drewN_drewN])⟩
     case measure=>simp [intOf];omega
    ·have hq:∀u:World,(binOp .neq 48 (.agg #[.int .i32 x1,.int .i32 x2]) (.agg #[.int .i32 y1,.int .i32 y2])).run Tryz.prog u=.ok (.bool true) u:=fun u=>by
      rw [neq_rg]
      have:(x1 == y1 && x2 == y2)=false:=by rw [Bool.eq_false_iff];simpa using hxy
      rw [this];rfl
     have HF:=Lib.hid (HNE.out (fun h=>hxy (by injection h with h1 h2;exact ⟨h1,h2⟩)))
     clear hxy
     go_wp2_with fail
     go_quiet (fail)
     go_wp2_with fail
     go_ret
     exact Lib.hid ⟨by rw [HF.out];rfl,_,by rw [HJ.out,World.drewN_drewN]⟩
   ·have HF:=Lib.hid (show eqL a b=true by
     have:=HT.out
     rw [List.take_of_length_le (by have:=HN.out;omega),List.take_of_length_le (by have:=HM.out;omega)] at this
     unfold eqL;exact decide_eq_true this)
    go_wp2_with fail
    go_ret
    exact Lib.hid ⟨by rw [HF.out];rfl,_,HJ.out⟩
 ·have hs:eqL a b=false:=by unfold eqL;rw [decide_eq_false_iff_not];rintro rfl;exact hnm (hn.symm.trans hm)
  have HS:=Lib.hid hs
  have hne:((n:Int) == (m:Int))=false:=by simp;omega
  have hne2:((n:Int) != (m:Int))=true:=by simp;omega
  clear hs hn hm hnm
  go_enter Tryz.func54,Tryz.ntmps54
  go_wp2_with fail
  go_ret
  exact Lib.hid ⟨by rw [HS.out];rfl,0,rfl⟩
theorem rd_nil (w:World) (B:Nat) (A:Option Addr):Rd w B A (rgs []):=Rd.empty _ _ _
theorem fit_nil:Fit []:=fun _ h=>by simp at h
theorem uni_nil (l:List Rg):uni l []=norm l:=nl_congr fun x _=>by rw [has_nil,Bool.or_false]
theorem norm_any (A:Option Addr) (l:List Rg) (n c:Nat) (w:World) (hr:Rd w w.heap.size A (rgs l)) (hn:l.length=n) (fl:Fit l) (hsm:n≤67108864) :
  Calls Tryz.prog 253 #[.slice A n c] w (Own w (norm l)):=by
 have HC:=Lib.hid (uni_any A none l [] n 0 c 0 w hr (rd_nil _ _ _) hn rfl fl fit_nil (by omega))
 clear hr hn fl hsm
 rw [uni_nil] at HC
 go_enter Tryz.func253,Tryz.ntmps253
 go_wp2_with fail
 refine HC.out.mono ?_
 rintro e w1 ⟨v,rfl,ho,hb⟩
 have HO:=Lib.hid ho
 have HB:=Lib.hid hb
 clear ho hb
 go_wp2_with fail
 go_ret
 exact ⟨v,rfl,HO.out,HB.out⟩
theorem not_any (A:Option Addr) (l:List Rg) (n c:Nat) (w:World) (hr:Rd w w.heap.size A (rgs l)) (hn:l.length=n) (fl:Fit l) (hsm:n≤67108864) :
  Calls Tryz.prog 255 #[.slice A n c] w (Own w (compl l)):=by
 have HC:=Lib.hid (over_any (fun p _=>!p) 285 (enters_of Tryz.func285 (by kernel_rfl) rfl) compl_keep A none l [] n 0 c 0 w hr (rd_nil _ _ _) hn rfl fl fit_nil (by omega))
 clear hr hn fl hsm
 go_enter Tryz.func255,Tryz.ntmps255
 go_wp2_with fail
 refine HC.out.mono ?_
 rintro e w1 ⟨v,rfl,ho,hb⟩
 have HO:=Lib.hid ho
 have HB:=Lib.hid hb
 clear ho hb
 go_wp2_with fail
 go_ret
 exact ⟨v,rfl,HO.out,HB.out⟩
def mayR:Int→List Rg→Bool
 | _,[]=>true
 | c,r :: l=>if r.1 < c∨r.2 < r.1∨1114111 < r.2 then false else mayR (r.2+2) l
theorem mayR_iff:∀(l:List Rg) (c:Int),0≤c→(mayR c l=true↔Nm l∧∀r∈l,c≤r.1)
 | [],c,_=>⟨fun _=>⟨Nm.nil,fun r h=>by cases h⟩,fun _=>rfl⟩
 | r :: l,c,hc=>by
  unfold mayR
  by_cases h:r.1 < c∨r.2 < r.1∨1114111 < r.2
  ·rw [if_pos h]
   refine ⟨fun e=>Bool.noConfusion e,fun ⟨e,f⟩=>?_⟩
   have h1:=e.hd
   have h2:=f r List.mem_cons_self
   omega
  ·rw [if_neg h,mayR_iff l (r.2+2) (by omega)]
   constructor
   ·rintro ⟨e,f⟩
    refine ⟨Nm.cons (by omega) f e,fun s hs=>?_⟩
    rcases List.mem_cons.1 hs with rfl | hs
    ·omega
    ·have:=f s hs;omega
   ·rintro ⟨e,f⟩
    exact ⟨e.tail,e.next⟩
theorem mayR_eq (l:List Rg):eqL (norm l) l=mayR 0 l:=by
 rw [Bool.eq_iff_iff,mayR_iff l 0 (Int.le_refl 0)]
 unfold eqL
 rw [decide_eq_true_eq,norm_iff]
 exact ⟨fun h=>⟨h,fun r hr=>(h.ok r hr).1⟩,fun h=>h.1⟩
set_option maxHeartbeats 4000000 in
theorem may_any (A:Option Addr) (l:List Rg) (n c:Nat) (w:World) (hr:Rd w w.heap.size A (rgs l)) (hn:l.length=n) (fl:Fit l) (hsm:n≤67108864) :
  Calls Tryz.prog 103 #[.slice A n c] w (Ret w (.bool (eqL (norm l) l))):=by
 rw [mayR_eq]
 have HR:=Lib.hid hr;have HN:=Lib.hid hn;have HF:=Lib.hid fl
 clear hr hn fl
 go_enter Tryz.func103,Tryz.ntmps103
 go_wp2_with fail
 go_loopw [3,8] (fun x i wr=>∃(k:Nat) (y:Int),k≤n∧x=.int .i32 y∧i=.int .i64 k∧0≤y∧y≤1114113∧Hid (mayR 0 l=mayR y (l.drop k))∧Hid (Below w.heap.size w wr)) (fun _ i _=>n - (intOf i).toNat)
 case atStart=>exact ⟨0,0,Nat.zero_le _,rfl,rfl,Int.le_refl _,by decide,Lib.hid rfl,Lib.hid (Below.refl _ _)⟩
 case round =>
  obtain ⟨k,y,hk,rfl,rfl,hy0,hy1,HT,HB⟩:=hrel
  by_cases hlt:k < n
  ·have hkl:k < l.length:=by rw [HN.out];exact hlt
   have hR2:=HR.out.below HB.out
   obtain ⟨b,o,rfl,hb⟩:=rd_form_rg hR2 (by omega)
   obtain ⟨c1,c2⟩:=rd_rg hR2 hkl
   have HFK:=Lib.hid (HF.out _ (List.getElem_mem hkl))
   have HT2:=Lib.hid (show mayR 0 l=mayR y (l[k] :: l.drop (k+1)) by rw [HT.out,List.drop_eq_getElem_cons hkl])
   generalize l[k]=q at c1 c2 HFK HT2
   obtain ⟨x1,x2⟩:=q
   dsimp only at c1 c2 HFK HT2
   have HB2:=Lib.hid (show Below w.heap.size w (wr.alloc (.cells #[.int .i32 x1,.int .i32 x2] 48)) from HB.out.alloc HB.out.size _)
   clear hR2 hkl HT
   by_cases h1:x1 < y
   ·have HE:=Lib.hid (show mayR 0 l=false by rw [HT2.out];unfold mayR;rw [if_pos (.inl h1)])
    clear HT2
    go_wp2_with fail
    go_ret
    rw [HE.out]
    exact ⟨rfl,HB2.out⟩
   ·by_cases h2:x2 < x1
    ·have HE:=Lib.hid (show mayR 0 l=false by rw [HT2.out];unfold mayR;rw [if_pos (.inr (.inl h2))])
     clear HT2
     go_wp2_with fail
     go_ret
     rw [HE.out]
     exact ⟨rfl,HB2.out⟩
    ·by_cases h3:1114111 < x2
     ·have HE:=Lib.hid (show mayR 0 l=false by rw [HT2.out];unfold mayR;rw [if_pos (.inr (.inr h3))])
      clear HT2
      go_wp2_with fail
      go_ret
      rw [HE.out]
      exact ⟨rfl,HB2.out⟩
     ·have HE:=Lib.hid (show mayR 0 l=mayR (x2+2) (l.drop (k+1)) by
      rw [HT2.out];conv=>lhs;unfold mayR
      rw [if_neg (by omega)])
      have hw:IntKind.i32.wrap (x2+2)=x2+2:=IntWalk.i32_in _ (by omega)
      clear HT2
      go_wp2_with fail
      go_roundw
      case rel=>exact ⟨k+1,x2+2,by omega,by go_num,by go_num,by omega,by omega,HE,HB2⟩
      case measure=>simp [intOf];omega
  ·obtain rfl:k=n:=by omega
   have HE:=Lib.hid (show mayR 0 l=true by rw [HT.out,List.drop_eq_nil_of_le (by rw [HN.out];exact Nat.le_refl _)];rfl)
   go_wp2_with fail
   go_ret
   rw [HE.out]
   exact ⟨rfl,HB.out⟩
end Go.Proofs.YtkgeiokckfpjlaaGreatDoor.Rset
namespace Go.Proofs.YtkgeiokckfpjlaaGreatDoor.Rset
set_option maxRecDepth 100000
open Go.RowKit
open Utf (Rd Blk wpList_append_rd own_ne)
set_option maxHeartbeats 4000000 in
theorem clipped_any (A:Option Addr) (l:List Rg) (n c:Nat) (w:World) (ha:Rd w w.heap.size A (rgs l)) (hn:l.length=n) (hn1:n≤1073741824) :
  Calls Tryz.prog 107 #[.slice A n c] w (Own w (clipF l)):=by
 obtain ⟨i0,hi,hz0,hz1,hz2⟩:=info_parts infoRg
 have HA:=Lib.hid ha;have HN:=Lib.hid hn
 clear ha hn
 go_enter Tryz.func107,Tryz.ntmps107
 go_wp2_with fail
 go_loopw [3,4] (fun s i wr=>∃(k:Nat) (v:Value),k≤n∧i=.int .i64 k∧s=v∧Hid (wr.ownsRow w.heap.size 48 2 v (clipF (l.take k)).length (rgs (clipF (l.take k)))∧Below w.heap.size w wr)) (fun _ i _=>n - (intOf i).toNat)
 case atStart=>exact ⟨0,_,Nat.zero_le _,rfl,rfl,World.ownsRow_nil _ _ _ _,Below.refl _ _⟩
 case round =>
  obtain ⟨k,v,hk,rfl,rfl,HI⟩:=hrel
  by_cases hlt:k < n
  ·have hkl:k < l.length:=by rw [HN.out];exact hlt
   have hR2:=HA.out.below HI.out.2
   obtain ⟨b,o,rfl,hb⟩:=rd_form_rg hR2 (by omega)
   obtain ⟨c1,c2⟩:=rd_rg hR2 hkl
   have HTK:=Lib.hid (clipF_take l k hkl)
   have HLEN:=Lib.hid (show (clipF (l.take k)).length≤1073741824 by have:=clipF_len (l.take k);rw [List.length_take] at this;have:=HN.out;omega)
   have HSZ:=Lib.hid HI.out.2.size
   generalize l[k]=q at *
   obtain ⟨x1,x2⟩:=q
   dsimp only at *
   clear hkl hR2
   by_cases h0:x1 < 0
   ·have d0:decide (x1 < 0)=true:=decide_eq_true h0
    by_cases h1:1114111 < x2
    ·have d1:decide (1114111 < x2)=true:=decide_eq_true h1
     have HE:=Lib.hid (show clipF (l.take (k+1))=clipF (l.take k)++[(0,1114111)] by rw [HTK.out];unfold clip;rw [if_pos (by simp only [];omega),show max x1 0=0 by omega,show min x2 1114111=1114111 by omega])
     clear HTK
     obtain ⟨CL,hCL⟩:∃CL,CL=clipF (l.take k):=⟨_,rfl⟩
     rw [←hCL] at HE HLEN HI
     clear hCL
     go_wp2_with (at_builtin;refine wpList_append_rd _ rfl (.tmp 29) (.tmp 31) _ rfl w.heap.size 48 i0 _ 2 8 Tryz.underlying37 hi hz0 hz1 hz2 rfl (by decide) u3 CL.length (rgs CL) rfl (by first | exact (HI.out.1.alloc _).alloc _ | skip) _ (some ⟨wr.heap.size+1,0,none⟩) 1 1 (rgs [(0,1114111)]) rfl rfl (rd_new _ _ (rgs [(0,1114111)]) _ (by simp)) (rgs_one _) (by have:=HLEN.out;unfold maxLen;omega) (by have:=HLEN.out;omega) (by have:=HSZ.out;simp;omega) ?_;intro v6 w6 hown6 hgr6 _)
     have HN6:Hid (w6.ownsRow w.heap.size 48 2 v6 (clipF (l.take (k+1))).length (rgs (clipF (l.take (k+1))))∧Below w.heap.size w w6):=by
      rw [HE.out,rgs_append,List.length_append]
      exact ⟨hown6,Below.grown (((HI.out.2.alloc HSZ.out _).alloc (by have:=HSZ.out;simp;omega) _)) hgr6 (by have:=HSZ.out;simp;omega) (fun y hy=>(HI.out.1.lt y hy).1)⟩
     clear hown6 hgr6
     go_roundw
     case rel=>exact ⟨k+1,_,by omega,by go_num,rfl,HN6⟩
     case measure=>simp [intOf];omega
    ·have d1:decide (1114111 < x2)=false:=decide_eq_false h1
     by_cases h2:(0:Int)≤x2
     ·have d2:decide ((0:Int)≤x2)=true:=decide_eq_true h2
      have HE:=Lib.hid (show clipF (l.take (k+1))=clipF (l.take k)++[(0,x2)] by rw [HTK.out];unfold clip;rw [if_pos (by simp only [];omega),show max x1 0=0 by omega,show min x2 1114111=x2 by omega])
      clear HTK
      obtain ⟨CL,hCL⟩:∃CL,CL=clipF (l.take k):=⟨_,rfl⟩
      rw [←hCL] at HE HLEN HI
      clear hCL
      go_wp2_with (at_builtin;refine wpList_append_rd _ rfl (.tmp 29) (.tmp 31) _ rfl w.heap.size 48 i0 _ 2 8 Tryz.underlying37 hi hz0 hz1 hz2 rfl (by decide) u3 CL.length (rgs CL) rfl (by first | exact (HI.out.1.alloc _).alloc _ | skip) _ (some ⟨wr.heap.size+1,0,none⟩) 1 1 (rgs [(0,x2)]) rfl rfl (rd_new _ _ (rgs [(0,x2)]) _ (by simp)) (rgs_one _) (by have:=HLEN.out;unfold maxLen;omega) (by have:=HLEN.out;omega) (by have:=HSZ.out;simp;omega) ?_;intro v6 w6 hown6 hgr6 _)
      have HN6:Hid (w6.ownsRow w.heap.size 48 2 v6 (clipF (l.take (k+1))).length (rgs (clipF (l.take (k+1))))∧Below w.heap.size w w6):=by
       rw [HE.out,rgs_append,List.length_append]
       exact ⟨hown6,Below.grown (((HI.out.2.alloc HSZ.out _).alloc (by have:=HSZ.out;simp;omega) _)) hgr6 (by have:=HSZ.out;simp;omega) (fun y hy=>(HI.out.1.lt y hy).1)⟩
      clear hown6 hgr6
      go_roundw
      case rel=>exact ⟨k+1,_,by omega,by go_num,rfl,HN6⟩
      case measure=>simp [intOf];omega
     ·have d2:decide ((0:Int)≤x2)=false:=decide_eq_false h2
      have HE:=Lib.hid (show clipF (l.take (k+1))=clipF (l.take k) by rw [HTK.out];unfold clip;rw [if_neg (by simp only [];omega),List.append_nil])
      clear HTK
      go_wp2_with fail
      have HN6:Hid (∀W,Below wr.heap.size wr W→W.ownsRow w.heap.size 48 2 u3 (clipF (l.take (k+1))).length (rgs (clipF (l.take (k+1))))∧Below w.heap.size w W):=fun W hb=>by
       rw [HE.out]
       exact ⟨own_below HI.out.1 hb,HI.out.2.trans (hb.mono HSZ.out)⟩
      go_roundw
      case rel=>exact ⟨k+1,_,by omega,by go_num,rfl,HN6.out _ (by first | exact (Below.refl _ _).alloc (Nat.le_refl _) _ | skip)⟩
      case measure=>simp [intOf];omega
   ·have d0:decide (x1 < 0)=false:=decide_eq_false h0
    by_cases h1:1114111 < x2
    ·have d1:decide (1114111 < x2)=true:=decide_eq_true h1
     by_cases h2:x1≤1114111
     ·have d2:decide (x1≤1114111)=true:=decide_eq_true h2
      have HE:=Lib.hid (show clipF (l.take (k+1))=clipF (l.take k)++[(x1,1114111)] by rw [HTK.out];unfold clip;rw [if_pos (by simp only [];omega),show max x1 0=x1 by omega,show min x2 1114111=1114111 by omega])
      clear HTK
      obtain ⟨CL,hCL⟩:∃CL,CL=clipF (l.take k):=⟨_,rfl⟩
      rw [←hCL] at HE HLEN HI
      clear hCL
      go_wp2_with (at_builtin;refine wpList_append_rd _ rfl (.tmp 29) (.tmp 31) _ rfl w.heap.size 48 i0 _ 2 8 Tryz.underlying37 hi hz0 hz1 hz2 rfl (by decide) u3 CL.length (rgs CL) rfl (by first | exact (HI.out.1.alloc _).alloc _ | skip) _ (some ⟨wr.heap.size+1,0,none⟩) 1 1 (rgs [(x1,1114111)]) rfl rfl (rd_new _ _ (rgs [(x1,1114111)]) _ (by simp)) (rgs_one _) (by have:=HLEN.out;unfold maxLen;omega) (by have:=HLEN.out;omega) (by have:=HSZ.out;simp;omega) ?_;intro v6 w6 hown6 hgr6 _)
      have HN6:Hid (w6.ownsRow w.heap.size 48 2 v6 (clipF (l.take (k+1))).length (rgs (clipF (l.take (k+1))))∧Below w.heap.size w w6):=by
       rw [HE.out,rgs_append,List.length_append]
       exact ⟨hown6,Below.grown (((HI.out.2.alloc HSZ.out _).alloc (by have:=HSZ.out;simp;omega) _)) hgr6 (by have:=HSZ.out;simp;omega) (fun y hy=>(HI.out.1.lt y hy).1)⟩
      clear hown6 hgr6
      go_roundw
      case rel=>exact ⟨k+1,_,by omega,by go_num,rfl,HN6⟩
      case measure=>simp [intOf];omega
     ·have d2:decide (x1≤1114111)=false:=decide_eq_false h2
      have HE:=Lib.hid (show clipF (l.take (k+1))=clipF (l.take k) by rw [HTK.out];unfold clip;rw [if_neg (by simp only [];omega),List.append_nil])
      clear HTK
      go_wp2_with fail
      have HN6:Hid (∀W,Below wr.heap.size wr W→W.ownsRow w.heap.size 48 2 u3 (clipF (l.take (k+1))).length (rgs (clipF (l.take (k+1))))∧Below w.heap.size w W):=fun W hb=>by
       rw [HE.out]
       exact ⟨own_below HI.out.1 hb,HI.out.2.trans (hb.mono HSZ.out)⟩
      go_roundw
      case rel=>exact ⟨k+1,_,by omega,by go_num,rfl,HN6.out _ (by first | exact (Below.refl _ _).alloc (Nat.le_refl _) _ | skip)⟩
      case measure=>simp [intOf];omega
    ·have d1:decide (1114111 < x2)=false:=decide_eq_false h1
     by_cases h2:x1≤x2
     ·have d2:decide (x1≤x2)=true:=decide_eq_true h2
      have HE:=Lib.hid (show clipF (l.take (k+1))=clipF (l.take k)++[(x1,x2)] by rw [HTK.out];unfold clip;rw [if_pos (by simp only [];omega),show max x1 0=x1 by omega,show min x2 1114111=x2 by omega])
      clear HTK
      obtain ⟨CL,hCL⟩:∃CL,CL=clipF (l.take k):=⟨_,rfl⟩
      rw [←hCL] at HE HLEN HI
      clear hCL
      go_wp2_with (at_builtin;refine wpList_append_rd _ rfl (.tmp 29) (.tmp 31) _ rfl w.heap.size 48 i0 _ 2 8 Tryz.underlying37 hi hz0 hz1 hz2 rfl (by decide) u3 CL.length (rgs CL) rfl (by first | exact (HI.out.1.alloc _).alloc _ | skip) _ (some ⟨wr.heap.size+1,0,none⟩) 1 1 (rgs [(x1,x2)]) rfl rfl (rd_new _ _ (rgs [(x1,x2)]) _ (by simp)) (rgs_one _) (by have:=HLEN.out;unfold maxLen;omega) (by have:=HLEN.out;omega) (by have:=HSZ.out;simp;omega) ?_;intro v6 w6 hown6 hgr6 _)
      have HN6:Hid (w6.ownsRow w.heap.size 48 2 v6 (clipF (l.take (k+1))).length (rgs (clipF (l.take (k+1))))∧Below w.heap.size w w6):=by
       rw [HE.out,rgs_append,List.length_append]
       exact ⟨hown6,Below.grown (((HI.out.2.alloc HSZ.out _).alloc (by have:=HSZ.out;simp;omega) _)) hgr6 (by have:=HSZ.out;simp;omega) (fun y hy=>(HI.out.1.lt y hy).1)⟩
      clear hown6 hgr6
      go_roundw
      case rel=>exact ⟨k+1,_,by omega,by go_num,rfl,HN6⟩
      case measure=>simp [intOf];omega
     ·have d2:decide (x1≤x2)=false:=decide_eq_false h2
      have HE:=Lib.hid (show clipF (l.take (k+1))=clipF (l.take k) by rw [HTK.out];unfold clip;rw [if_neg (by simp only [];omega),List.append_nil])
      clear HTK
      go_wp2_with fail
      have HN6:Hid (∀W,Below wr.heap.size wr W→W.ownsRow w.heap.size 48 2 u3 (clipF (l.take (k+1))).length (rgs (clipF (l.take (k+1))))∧Below w.heap.size w W):=fun W hb=>by
       rw [HE.out]
       exact ⟨own_below HI.out.1 hb,HI.out.2.trans (hb.mono HSZ.out)⟩
      go_roundw
      case rel=>exact ⟨k+1,_,by omega,by go_num,rfl,HN6.out _ (by first | exact (Below.refl _ _).alloc (Nat.le_refl _) _ | skip)⟩
      case measure=>simp [intOf];omega
  ·have HE:=Lib.hid (show clipF (l.take k)=clipF l by rw [List.take_of_length_le (by have:=HN.out;omega)])
   have HO:Hid (wr.ownsRow w.heap.size 48 2 u3 (clipF l).length (rgs (clipF l))∧Below w.heap.size w wr):=by
    have h:=HI.out
    rw [HE.out] at h
    exact h
   go_wp2_with fail
   go_ret
   exact ⟨_,rfl,HO.out.1,HO.out.2⟩
end Go.Proofs.YtkgeiokckfpjlaaGreatDoor.Rset
