/-
  Texts of stage 7, part 12.
-/
import Derived.BigQuiet
import Derived.Deep.QuietTactic
import Derived.Outline
import Derived.Shelf.Abstract
import Derived.Test.YtegdbmbenjnacaaGreatR1
import Derived.Test.YtegdbmbenjnacaaGreatR11
namespace Go.Proofs.YtegdbmbenjnacaaGreat.Rset
set_option maxRecDepth 100000
open Go.RowKit
open Utf (Rd Blk wpList_append_rd own_ne)
def eqL (a b:List Rg):Bool:=decide (a=b)
theorem take_succ_eq {a b:List Rg} {k:Nat} (ha:k < a.length) (hb:k < b.length) (h:a.take k=b.take k):a[k]=b[k]→a.take (k+1)=b.take (k+1):=fun e=>by
 rw [List.take_succ_eq_append_getElem ha,List.take_succ_eq_append_getElem hb,h,e]
set_option maxHeartbeats 2000000 in
theorem same_any (A B:Option Addr) (a b:List Rg) (n m c d:Nat) (w:World) (ha:Rd w w.heap.size A (rgs a)) (hb:Rd w w.heap.size B (rgs b)) (hn:a.length=n) (hm:b.length=m) (hn1:n≤1099511627776) (hm1:m≤1099511627776) :
  Calls Tryz.prog 54 #[.slice A n c,.slice B m d] w fun e w'=>e=.returned (.bool (eqL a b))∧∃k,w'=w.drewN k:=by
 suffices H:Calls Tryz.prog 54 #[.slice A n c,.slice B m d] w (fun e w'=>Hid (e=.returned (.bool (eqL a b))∧∃k,w'=w.drewN k)) from H.mono fun e w' h=>h.out
 by_cases hnm:n=m
 ·subst hnm
  have HN:=Lib.hid hn;have HM:=Lib.hid hm
  clear hn hm
  go_enter Tryz.func54,Tryz.ntmps54
  go_wp2_with fail
  go_loopw [5] (fun i wr=>∃k j:Nat,k≤n∧i=.int .i64 k∧Hid (a.take k=b.take k)∧Hid (wr=w.drewN j)) (fun i _=>n - (intOf i).toNat)
  case atStart=>exact ⟨0,0,Nat.zero_le _,rfl,Lib.hid rfl,Lib.hid rfl⟩
  case round =>
   obtain ⟨k,j,hk,rfl,HT,HJ⟩:=hrel
   by_cases hlt:k < n
   ·have hka:k < a.length:=by rw [HN.out];exact hlt
    have hkb:k < b.length:=by rw [HM.out];exact hlt
    obtain ⟨ba,oa,rfl,_⟩:=rd_form_rg ha (by omega)
    obtain ⟨bb,ob,rfl,_⟩:=rd_form_rg hb (by omega)
    have hwr:∀p:Addr,wr.cell? p=w.cell? p:=fun p=>by rw [HJ.out];rfl
    obtain ⟨a1,a2⟩:=rd_rg ha hka
    obtain ⟨b1,b2⟩:=rd_rg hb hkb
    rw [←hwr] at a1 a2 b1 b2
    have HTS:=Lib.hid (take_succ_eq hka hkb HT.out)
    have HNE:=Lib.hid (show a[k]≠b[k]→eqL a b=false from fun h=>by unfold eqL;rw [decide_eq_false_iff_not];rintro rfl;exact h rfl)
    generalize a[k]=x at a1 a2 HTS HNE
    generalize b[k]=y at b1 b2 HTS HNE
    obtain ⟨x1,x2⟩:=x
    obtain ⟨y1,y2⟩:=y
    dsimp only at a1 a2 b1 b2
    clear hwr HT hka hkb
    by_cases hxy:x1=y1∧x2=y2
    ·obtain ⟨rfl,rfl⟩:=hxy
     have hq:∀u:World,(binOp .neq 141 (.agg #[.int .i32 x1,.int .i32 x2]) (.agg #[.int .i32 x1,.int .i32 x2])).run Tryz.prog u=.ok (.bool false) u:=fun u=>by rw [neq_rg];simp
     go_wp2_with fail
     go_quiet (fail)
     go_wp2_with fail
     go_roundw
     case rel=>exact ⟨k+1,_,by omega,by go_num,Lib.hid (HTS.out trivial),Lib.hid (by rw [HJ.out,World.drewN_drewN])⟩
     case measure=>simp [intOf];omega
    ·have hq:∀u:World,(binOp .neq 141 (.agg #[.int .i32 x1,.int .i32 x2]) (.agg #[.int .i32 y1,.int .i32 y2])).run Tryz.prog u=.ok (.bool true) u:=fun u=>by
      rw [neq_rg]
      have:(x1 == y1 && x2 == y2)=false:=by rw [Bool.eq_false_iff];simpa using hxy
      rw [this];rfl
     have HF:=Lib.hid (HNE.out (fun h=>hxy (by injection h with h1 h2;exact ⟨h1,h2⟩)))
     clear hxy
     go_wp2_with fail
     go_quiet (fail)
     go_wp2_with fail
     go_ret
     exact Lib.hid ⟨by rw [HF.out];rfl,_,by rw [HJ.out,World.drewN_drewN]⟩
   ·have HF:=Lib.hid (show eqL a b=true by
     have:=HT.out
     rw [List.take_of_length_le (by have:=HN.out;omega),List.take_of_length_le (by have:=HM.out;omega)] at this
     unfold eqL;exact decide_eq_true this)
    go_wp2_with fail
    go_ret
    exact Lib.hid ⟨by rw [HF.out];rfl,_,HJ.out⟩
 ·have hs:eqL a b=false:=by unfold eqL;rw [decide_eq_false_iff_not];rintro rfl;exact hnm (hn.symm.trans hm)
  have HS:=Lib.hid hs
  have hne:((n:Int) == (m:Int))=false:=by simp;omega
  have hne2:((n:Int) != (m:Int))=true:=by simp;omega
  clear hs hn hm hnm
  go_enter Tryz.func54,Tryz.ntmps54
  go_wp2_with fail
  go_ret
  exact Lib.hid ⟨by rw [HS.out];rfl,0,rfl⟩
theorem rd_nil (w:World) (B:Nat) (A:Option Addr):Rd w B A (rgs []):=Rd.empty _ _ _
theorem fit_nil:Fit []:=fun _ h=>by simp at h
def mayR:Int→List Rg→Bool
 | _,[]=>true
 | c,r :: l=>if r.1 < c∨r.2 < r.1∨1114111 < r.2 then false else mayR (r.2+2) l
theorem mayR_iff:∀(l:List Rg) (c:Int),0≤c→(mayR c l=true↔Nm l∧∀r∈l,c≤r.1)
 | [],c,_=>⟨fun _=>⟨Nm.nil,fun r h=>by cases h⟩,fun _=>rfl⟩
 | r :: l,c,hc=>by
  unfold mayR
  by_cases h:r.1 < c∨r.2 < r.1∨1114111 < r.2
  ·rw [if_pos h]
   refine ⟨fun e=>Bool.noConfusion e,fun ⟨e,f⟩=>?_⟩
   have h1:=e.hd
   have h2:=f r List.mem_cons_self
   omega
  ·rw [if_neg h,mayR_iff l (r.2+2) (by omega)]
   constructor
   ·rintro ⟨e,f⟩
    refine ⟨Nm.cons (by omega) f e,fun s hs=>?_⟩
    rcases List.mem_cons.1 hs with rfl | hs
    ·omega
    ·have:=f s hs;omega
   ·rintro ⟨e,f⟩
    exact ⟨e.tail,e.next⟩
theorem mayR_eq (l:List Rg):eqL (norm l) l=mayR 0 l:=by
 rw [Bool.eq_iff_iff,mayR_iff l 0 (Int.le_refl 0)]
 unfold eqL
 rw [decide_eq_true_eq,norm_iff]
 exact ⟨fun h=>⟨h,fun r hr=>(h.ok r hr).1⟩,fun h=>h.1⟩
set_option maxHeartbeats 4000000 in
theorem may_any (A:Option Addr) (l:List Rg) (n c:Nat) (w:World) (hr:Rd w w.heap.size A (rgs l)) (hn:l.length=n) (fl:Fit l) (hsm:n≤67108864) :
  Calls Tryz.prog 102 #[.slice A n c] w (Ret w (.bool (eqL (norm l) l))):=by
 rw [mayR_eq]
 have HR:=Lib.hid hr;have HN:=Lib.hid hn;have HF:=Lib.hid fl
 clear hr hn fl
 go_enter Tryz.func102,Tryz.ntmps102
 go_wp2_with fail
 go_loopw [3,8] (fun x i wr=>∃(k:Nat) (y:Int),k≤n∧x=.int .i32 y∧i=.int .i64 k∧0≤y∧y≤1114113∧Hid (mayR 0 l=mayR y (l.drop k))∧Hid (Below w.heap.size w wr)) (fun _ i _=>n - (intOf i).toNat)
 case atStart=>exact ⟨0,0,Nat.zero_le _,rfl,rfl,Int.le_refl _,by decide,Lib.hid rfl,Lib.hid (Below.refl _ _)⟩
 case round =>
  obtain ⟨k,y,hk,rfl,rfl,hy0,hy1,HT,HB⟩:=hrel
  by_cases hlt:k < n
  ·have hkl:k < l.length:=by rw [HN.out];exact hlt
   have hR2:=HR.out.below HB.out
   obtain ⟨b,o,rfl,hb⟩:=rd_form_rg hR2 (by omega)
   obtain ⟨c1,c2⟩:=rd_rg hR2 hkl
   have HFK:=Lib.hid (HF.out _ (List.getElem_mem hkl))
   have HT2:=Lib.hid (show mayR 0 l=mayR y (l[k] :: l.drop (k+1)) by rw [HT.out,List.drop_eq_getElem_cons hkl])
   generalize l[k]=q at c1 c2 HFK HT2
   obtain ⟨x1,x2⟩:=q
   dsimp only at c1 c2 HFK HT2
   have HB2:=Lib.hid (show Below w.heap.size w (wr.alloc (.cells #[.int .i32 x1,.int .i32 x2] 141)) from HB.out.alloc HB.out.size _)
   clear hR2 hkl HT
   by_cases h1:x1 < y
   ·have HE:=Lib.hid (show mayR 0 l=false by rw [HT2.out];unfold mayR;rw [if_pos (.inl h1)])
    clear HT2
    go_wp2_with fail
    go_ret
    rw [HE.out]
    exact ⟨rfl,HB2.out⟩
   ·by_cases h2:x2 < x1
    ·have HE:=Lib.hid (show mayR 0 l=false by rw [HT2.out];unfold mayR;rw [if_pos (.inr (.inl h2))])
     clear HT2
     go_wp2_with fail
     go_ret
     rw [HE.out]
     exact ⟨rfl,HB2.out⟩
    ·by_cases h3:1114111 < x2
     ·have HE:=Lib.hid (show mayR 0 l=false by rw [HT2.out];unfold mayR;rw [if_pos (.inr (.inr h3))])
      clear HT2
      go_wp2_with fail
      go_ret
      rw [HE.out]
      exact ⟨rfl,HB2.out⟩
     ·have HE:=Lib.hid (show mayR 0 l=mayR (x2+2) (l.drop (k+1)) by
      rw [HT2.out];conv=>lhs;unfold mayR
      rw [if_neg (by omega)])
      have hw:IntKind.i32.wrap (x2+2)=x2+2:=IntWalk.i32_in _ (by omega)
      clear HT2
      go_wp2_with fail
      go_roundw
      case rel=>exact ⟨k+1,x2+2,by omega,by go_num,by go_num,by omega,by omega,HE,HB2⟩
      case measure=>simp [intOf];omega
  ·obtain rfl:k=n:=by omega
   have HE:=Lib.hid (show mayR 0 l=true by rw [HT.out,List.drop_eq_nil_of_le (by rw [HN.out];exact Nat.le_refl _)];rfl)
   go_wp2_with fail
   go_ret
   rw [HE.out]
   exact ⟨rfl,HB.out⟩
end Go.Proofs.YtegdbmbenjnacaaGreat.Rset
namespace Go.Proofs.YtegdbmbenjnacaaGreat.Rset
set_option maxRecDepth 100000
open Go.RowKit
open Utf (Rd Blk wpList_append_rd own_ne)
theorem has1_any (x1 x2 r:Int) (gb:Nat) (w:World) (hc:w.cell? ⟨gb,0,none⟩=some (.int .i32 r)) (hg:gb < w.heap.size) :
  Calls Tryz.prog 93 #[.agg #[.int .i32 x1,.int .i32 x2],.pointer (some ⟨gb,0,none⟩)] w (Ret w (.bool (inn (x1,x2) r))):=by
 have HE:=Lib.hid (show inn (x1,x2) r=(decide (x1≤r) && decide (r≤x2)) from rfl)
 by_cases h:x1≤r
 ·have hd:decide (x1≤r)=true:=decide_eq_true h
  have HE2:=Lib.hid (HE.out.trans (by rw [hd,Bool.true_and]))
  clear h HE
  go_enter Tryz.func93,Tryz.ntmps93
  go_wp2_with fail
  go_ret
  exact ⟨ret_bool HE2.out.symm,(Below.refl _ _).alloc (Nat.le_refl _) _⟩
 ·have hd:decide (x1≤r)=false:=decide_eq_false h
  have HE2:=Lib.hid (HE.out.trans (by rw [hd,Bool.false_and]))
  clear h HE
  go_enter Tryz.func93,Tryz.ntmps93
  go_wp2_with fail
  go_ret
  exact ⟨ret_bool HE2.out.symm,(Below.refl _ _).alloc (Nat.le_refl _) _⟩
theorem anyIn_take (l:List Rg) (x:Int) (k:Nat) (hk:k < l.length):anyIn (l.take (k+1)) x=(anyIn (l.take k) x || inn l[k] x):=by
 rw [List.take_succ_eq_append_getElem hk,anyIn_append,anyIn_one]
theorem anyIn_of_get {l:List Rg} {x:Int} {k:Nat} (hk:k < l.length) (h:inn l[k] x=true):anyIn l x=true:=by
 unfold anyIn;rw [List.any_eq_true];exact ⟨_,List.getElem_mem hk,h⟩
def Found (b:Bool) (w:World) (e:Ending) (w':World):Prop:=∃i:Int,e=.returned (.int .i64 i)∧decide (0≤i)=b∧Below w.heap.size w w'
set_option maxHeartbeats 2000000 in
theorem index_any (A:Option Addr) (l:List Rg) (n c gb:Nat) (r:Int) (w:World) (ha:Rd w w.heap.size A (rgs l)) (hn:l.length=n) (hn1:n≤1099511627776) (hc:w.cell? ⟨gb,0,none⟩=some (.int .i32 r)) (hg:gb < w.heap.size) :
  Calls Tryz.prog 108 #[.slice A n c,.func (.func 93) #[] #[.pointer (some ⟨gb,0,none⟩)]] w (Found (anyIn l r) w):=by
 have eg:∀args w,(callFunc 93 args).run Tryz.prog w=.ok (.enter 93 args) w:=enters_of Tryz.func93 (by kernel_rfl) rfl
 have HA:=Lib.hid ha;have HN:=Lib.hid hn;have HC:=Lib.hid hc;have HG:=Lib.hid hg
 clear ha hn hc hg
 go_enter Tryz.func108,Tryz.ntmps108
 go_wp2_with fail
 go_loopw [8] (fun i wr=>∃k:Nat,k≤n∧i=.int .i64 k∧Hid (anyIn (l.take k) r=false)∧Hid (Below w.heap.size w wr)) (fun i _=>n - (intOf i).toNat)
 case atStart=>exact ⟨0,Nat.zero_le _,rfl,Lib.hid rfl,Lib.hid (Below.refl _ _)⟩
 case round =>
  obtain ⟨k,hk,rfl,HT,HW⟩:=hrel
  by_cases hlt:k < n
  ·have hkl:k < l.length:=by rw [HN.out];exact hlt
   have hR2:=HA.out.below HW.out
   obtain ⟨b,o,rfl,hb⟩:=rd_form_rg hR2 (by omega)
   obtain ⟨c1,c2⟩:=rd_rg hR2 hkl
   have HTK:=Lib.hid (anyIn_take l r k hkl)
   have HON:=Lib.hid (fun h=>anyIn_of_get (x:=r) hkl h)
   generalize l[k]=q at *
   obtain ⟨x1,x2⟩:=q
   dsimp only at *
   have HF:=Lib.hid (has1_any x1 x2 r gb wr ((HW.out.cell (p:=⟨gb,0,none⟩) HG.out).trans HC.out) (Nat.lt_of_lt_of_le HG.out HW.out.size))
   clear hR2 hkl
   cases hb:inn (x1,x2) r with
   | true =>
    rw [hb] at HF
    have HE:=Lib.hid (HON.out hb)
    clear hb
    go_wp2_with (go_at_fn 93;refine HF.out.mono ?_;rintro e w1 ⟨rfl,hb1⟩;have HB1:=Lib.hid (HW.out.trans (hb1.mono HW.out.size));clear hb1)
    go_ret
    refine ⟨k,rfl,?_,HB1.out⟩
    rw [HE.out,decide_eq_true_eq];omega
   | false =>
    rw [hb] at HF
    have HE:=Lib.hid (show anyIn (l.take (k+1)) r=false by rw [HTK.out,HT.out,hb];rfl)
    clear hb
    go_wp2_with (go_at_fn 93;refine HF.out.mono ?_;rintro e w1 ⟨rfl,hb1⟩;have HB1:=Lib.hid (HW.out.trans (hb1.mono HW.out.size));clear hb1)
    go_roundw
    case rel=>exact ⟨k+1,by omega,by go_num,HE,HB1⟩
    case measure=>simp [intOf];omega
  ·have HE:=Lib.hid (show anyIn l r=false by
    have:=HT.out
    rwa [List.take_of_length_le (by have:=HN.out;omega)] at this)
   go_wp2_with fail
   go_ret
   refine ⟨-1,rfl,?_,HW.out⟩
   rw [HE.out];rfl
theorem contains_any (A:Option Addr) (l:List Rg) (n c gb:Nat) (r:Int) (w:World) (ha:Rd w w.heap.size A (rgs l)) (hn:l.length=n) (hn1:n≤1099511627776) (hc:w.cell? ⟨gb,0,none⟩=some (.int .i32 r)) (hg:gb < w.heap.size) :
  Calls Tryz.prog 92 #[.slice A n c,.func (.func 93) #[] #[.pointer (some ⟨gb,0,none⟩)]] w (Ret w (.bool (anyIn l r))):=by
 have HC:=Lib.hid (index_any A l n c gb r w ha hn hn1 hc hg)
 clear ha hn hc hg
 go_enter Tryz.func92,Tryz.ntmps92
 go_wp2_with fail
 refine HC.out.mono ?_
 rintro e w1 ⟨i,rfl,hi,hb⟩
 have HI:=Lib.hid hi;have HB:=Lib.hid hb
 clear hi hb HC
 go_wp2_with fail
 go_ret
 exact ⟨ret_bool HI.out,HB.out⟩
theorem has_any (A:Option Addr) (l:List Rg) (n c:Nat) (r:Int) (w:World) (ha:Rd w w.heap.size A (rgs l)) (hn:l.length=n) (hn1:n≤1099511627776) :
  Calls Tryz.prog 72 #[.slice A n c,.int .i32 r] w (Ret w (.bool (has l r))):=by
 by_cases h0:r < 0
 ·have HE:=Lib.hid (show has l r=false from has_out (by rw [Bool.eq_false_iff,Ne,inR_iff];omega))
  have hd:decide (r < 0)=true:=decide_eq_true h0
  clear ha h0
  go_enter Tryz.func72,Tryz.ntmps72
  go_wp2_with fail
  go_ret
  exact ⟨ret_bool HE.out.symm,(Below.refl _ _).alloc (Nat.le_refl _) _⟩
 ·have hd:decide (r < 0)=false:=decide_eq_false h0
  by_cases h1:1114111 < r
  ·have HE:=Lib.hid (show has l r=false from has_out (by rw [Bool.eq_false_iff,Ne,inR_iff];omega))
   have hd1:decide (1114111 < r)=true:=decide_eq_true h1
   clear ha h0 h1
   go_enter Tryz.func72,Tryz.ntmps72
   go_wp2_with fail
   go_ret
   exact ⟨ret_bool HE.out.symm,(Below.refl _ _).alloc (Nat.le_refl _) _⟩
  ·have HE:=Lib.hid (show has l r=anyIn l r by unfold has;rw [inR_iff.2 ⟨by omega,by omega⟩,Bool.true_and])
   have hd1:decide (1114111 < r)=false:=decide_eq_false h1
   obtain ⟨W0,hW0⟩:∃W0,W0=w.alloc (.cells #[.int .i32 r] 21):=⟨_,rfl⟩
   have hb0:Below w.heap.size w W0:=by rw [hW0];exact (Below.refl _ _).alloc (Nat.le_refl _) _
   have hbk:Blk W0 w.heap.size 21 [.int .i32 r]:=by rw [hW0];exact Blk.new w _ [.int .i32 r]
   have HC:=Lib.hid (contains_any A l n c w.heap.size r W0 ((ha.below hb0).more hb0.size) hn hn1 (hbk.cell 0) hbk.lt)
   have HB:=Lib.hid hb0
   have HW:=Lib.hid hW0
   clear ha h0 h1 hb0 hbk hW0 hn
   go_enter Tryz.func72,Tryz.ntmps72
   go_wp2_with fail
   rw [←HW.out]
   refine HC.out.mono ?_
   rintro e w1 ⟨rfl,hb⟩
   have HB2:=Lib.hid (HB.out.trans (hb.mono HB.out.size))
   clear hb
   go_wp2_with fail
   go_ret
   exact ⟨ret_bool HE.out.symm,HB2.out⟩
end Go.Proofs.YtegdbmbenjnacaaGreat.Rset
namespace Go.Proofs.YtegdbmbenjnacaaGreat.Rset
set_option maxRecDepth 100000
open Go.RowKit
open Utf (Rd Blk wpList_append_rd own_ne)
set_option maxHeartbeats 4000000 in
theorem rhas_any (A:Option Addr) (l:List Rg) (n c:Nat) (r:Int) (w:World) (ha:Rd w w.heap.size A (rgs l)) (hn:l.length=n) (hn1:n≤1099511627776) :
  Calls Tryz.prog 82 #[.slice A n c,.int .i32 r] w fun e w'=>e=.returned (.bool (has l r))∧w=w':=by
 suffices H:Calls Tryz.prog 82 #[.slice A n c,.int .i32 r] w (fun e w'=>Hid (e=.returned (.bool (has l r))∧w=w')) from H.mono fun e w' h=>h.out
 have HA:=Lib.hid ha;have HN:=Lib.hid hn
 clear ha hn
 go_enter Tryz.func82,Tryz.ntmps82
 go_wp2_with fail
 go_loopw [5] (fun i wr=>∃k:Nat,k≤n∧i=.int .i64 k∧Hid (has (l.take k) r=false)∧Hid (w=wr)) (fun i _=>n - (intOf i).toNat)
 case atStart=>exact ⟨0,Nat.zero_le _,rfl,Lib.hid (has_nil r),Lib.hid rfl⟩
 case round =>
  obtain ⟨k,hk,rfl,HT,HW⟩:=hrel
  obtain rfl:=HW.out
  by_cases hlt:k < n
  ·have hkl:k < l.length:=by rw [HN.out];exact hlt
   obtain ⟨b,o,rfl,hb⟩:=rd_form_rg HA.out (by omega)
   obtain ⟨c1,c2⟩:=rd_rg HA.out hkl
   have HTK:=Lib.hid (show has (l.take (k+1)) r=(has (l.take k) r || (decide (0≤r) && decide (r≤1114111) && (decide (l[k].1≤r) && decide (r≤l[k].2)))) from by
    unfold has;rw [anyIn_take l r k hkl,Bool.and_or_distrib_left];rfl)
   have HON:=Lib.hid (fun (h1:inR r=true) (h2:inn l[k] r=true)=>show has l r=true by unfold has;rw [h1,anyIn_of_get hkl h2];rfl)
   generalize l[k]=q at *
   obtain ⟨x1,x2⟩:=q
   dsimp only at *
   clear hkl
   by_cases h0:0≤r
   ·have d0:decide (0≤r)=true:=decide_eq_true h0
    clear h0
    by_cases h1:r≤1114111
    ·have d1:decide (r≤1114111)=true:=decide_eq_true h1
     clear h1
     by_cases h2:x1≤r
     ·have d2:decide (x1≤r)=true:=decide_eq_true h2
      clear h2
      by_cases h3:r≤x2
      ·have d3:decide (r≤x2)=true:=decide_eq_true h3
       clear h3
       have HE:=Lib.hid (HON.out (inR_iff.2 ⟨of_decide_eq_true d0,of_decide_eq_true d1⟩) (inn_iff.2 ⟨of_decide_eq_true d2,of_decide_eq_true d3⟩))
       clear HTK
       go_wp2_with fail
       go_ret
       exact Lib.hid ⟨ret_bool HE.out.symm,rfl⟩
      ·have d3:decide (r≤x2)=false:=decide_eq_false h3
       have HE:=Lib.hid (show has (l.take (k+1)) r=false by rw [HTK.out,HT.out,d0,d1,d2,d3];simp)
       clear h3 HTK
       go_wp2_with fail
       go_roundw
       case rel=>exact ⟨k+1,by omega,by go_num,HE,Lib.hid trivial⟩
       case measure=>simp [intOf];omega
     ·have d2:decide (x1≤r)=false:=decide_eq_false h2
      have HE:=Lib.hid (show has (l.take (k+1)) r=false by rw [HTK.out,HT.out,d0,d1,d2];simp)
      clear h2 HTK
      go_wp2_with fail
      go_roundw
      case rel=>exact ⟨k+1,by omega,by go_num,HE,Lib.hid trivial⟩
      case measure=>simp [intOf];omega
    ·have d1:decide (r≤1114111)=false:=decide_eq_false h1
     have HE:=Lib.hid (show has (l.take (k+1)) r=false by rw [HTK.out,HT.out,d0,d1];simp)
     clear h1 HTK
     go_wp2_with fail
     go_roundw
     case rel=>exact ⟨k+1,by omega,by go_num,HE,Lib.hid trivial⟩
     case measure=>simp [intOf];omega
   ·have d0:decide (0≤r)=false:=decide_eq_false h0
    have HE:=Lib.hid (show has (l.take (k+1)) r=false by rw [HTK.out,HT.out,d0];simp)
    clear h0 HTK
    go_wp2_with fail
    go_roundw
    case rel=>exact ⟨k+1,by omega,by go_num,HE,Lib.hid trivial⟩
    case measure=>simp [intOf];omega
  ·have HE:=Lib.hid (show has l r=false by
    have:=HT.out
    rwa [List.take_of_length_le (by have:=HN.out;omega)] at this)
   go_wp2_with fail
   go_ret
   exact Lib.hid ⟨ret_bool HE.out.symm,rfl⟩
set_option maxHeartbeats 4000000 in
theorem clipped_any (A:Option Addr) (l:List Rg) (n c:Nat) (w:World) (ha:Rd w w.heap.size A (rgs l)) (hn:l.length=n) (hn1:n≤1073741824) :
  Calls Tryz.prog 78 #[.slice A n c] w (Own w (clipF l)):=by
 obtain ⟨i0,hi,hz0,hz1,hz2⟩:=info_parts infoRg
 have HA:=Lib.hid ha;have HN:=Lib.hid hn
 clear ha hn
 go_enter Tryz.func78,Tryz.ntmps78
 go_wp2_with fail
 go_loopw [3,4] (fun s i wr=>∃(k:Nat) (v:Value),k≤n∧i=.int .i64 k∧s=v∧Hid (wr.ownsRow w.heap.size 141 2 v (clipF (l.take k)).length (rgs (clipF (l.take k)))∧Below w.heap.size w wr)) (fun _ i _=>n - (intOf i).toNat)
 case atStart=>exact ⟨0,_,Nat.zero_le _,rfl,rfl,World.ownsRow_nil _ _ _ _,Below.refl _ _⟩
 case round =>
  obtain ⟨k,v,hk,rfl,rfl,HI⟩:=hrel
  by_cases hlt:k < n
  ·have hkl:k < l.length:=by rw [HN.out];exact hlt
   have hR2:=HA.out.below HI.out.2
   obtain ⟨b,o,rfl,hb⟩:=rd_form_rg hR2 (by omega)
   obtain ⟨c1,c2⟩:=rd_rg hR2 hkl
   have HTK:=Lib.hid (clipF_take l k hkl)
   have HLEN:=Lib.hid (show (clipF (l.take k)).length≤1073741824 by have:=clipF_len (l.take k);rw [List.length_take] at this;have:=HN.out;omega)
   have HSZ:=Lib.hid HI.out.2.size
   generalize l[k]=q at *
   obtain ⟨x1,x2⟩:=q
   dsimp only at *
   clear hkl hR2
   by_cases h0:x1 < 0
   ·have d0:decide (x1 < 0)=true:=decide_eq_true h0
    by_cases h1:1114111 < x2
    ·have d1:decide (1114111 < x2)=true:=decide_eq_true h1
     have HE:=Lib.hid (show clipF (l.take (k+1))=clipF (l.take k)++[(0,1114111)] by rw [HTK.out];unfold clip;rw [if_pos (by simp only [];omega),show max x1 0=0 by omega,show min x2 1114111=1114111 by omega])
     clear HTK
     obtain ⟨CL,hCL⟩:∃CL,CL=clipF (l.take k):=⟨_,rfl⟩
     rw [←hCL] at HE HLEN HI
     clear hCL
     go_wp2_with (at_builtin;refine wpList_append_rd _ rfl (.tmp 29) (.tmp 31) _ rfl w.heap.size 141 i0 _ 2 8 Tryz.underlying72 hi hz0 hz1 hz2 rfl (by decide) u3 CL.length (rgs CL) rfl (by first | exact (HI.out.1.alloc _).alloc _ | skip) _ (some ⟨wr.heap.size+1,0,none⟩) 1 1 (rgs [(0,1114111)]) rfl rfl (rd_new _ _ (rgs [(0,1114111)]) _ (by simp)) (rgs_one _) (by have:=HLEN.out;unfold maxLen;omega) (by have:=HLEN.out;omega) (by have:=HSZ.out;simp;omega) ?_;intro v6 w6 hown6 hgr6 _)
     have HN6:Hid (w6.ownsRow w.heap.size 141 2 v6 (clipF (l.take (k+1))).length (rgs (clipF (l.take (k+1))))∧Below w.heap.size w w6):=by
      rw [HE.out,rgs_append,List.length_append]
      exact ⟨hown6,Below.grown (((HI.out.2.alloc HSZ.out _).alloc (by have:=HSZ.out;simp;omega) _)) hgr6 (by have:=HSZ.out;simp;omega) (fun y hy=>(HI.out.1.lt y hy).1)⟩
     clear hown6 hgr6
     go_roundw
     case rel=>exact ⟨k+1,_,by omega,by go_num,rfl,HN6⟩
     case measure=>simp [intOf];omega
    ·have d1:decide (1114111 < x2)=false:=decide_eq_false h1
     by_cases h2:(0:Int)≤x2
     ·have d2:decide ((0:Int)≤x2)=true:=decide_eq_true h2
      have HE:=Lib.hid (show clipF (l.take (k+1))=clipF (l.take k)++[(0,x2)] by rw [HTK.out];unfold clip;rw [if_pos (by simp only [];omega),show max x1 0=0 by omega,show min x2 1114111=x2 by omega])
      clear HTK
      obtain ⟨CL,hCL⟩:∃CL,CL=clipF (l.take k):=⟨_,rfl⟩
      rw [←hCL] at HE HLEN HI
      clear hCL
      go_wp2_with (at_builtin;refine wpList_append_rd _ rfl (.tmp 29) (.tmp 31) _ rfl w.heap.size 141 i0 _ 2 8 Tryz.underlying72 hi hz0 hz1 hz2 rfl (by decide) u3 CL.length (rgs CL) rfl (by first | exact (HI.out.1.alloc _).alloc _ | skip) _ (some ⟨wr.heap.size+1,0,none⟩) 1 1 (rgs [(0,x2)]) rfl rfl (rd_new _ _ (rgs [(0,x2)]) _ (by simp)) (rgs_one _) (by have:=HLEN.out;unfold maxLen;omega) (by have:=HLEN.out;omega) (by have:=HSZ.out;simp;omega) ?_;intro v6 w6 hown6 hgr6 _)
      have HN6:Hid (w6.ownsRow w.heap.size 141 2 v6 (clipF (l.take (k+1))).length (rgs (clipF (l.take (k+1))))∧Below w.heap.size w w6):=by
       rw [HE.out,rgs_append,List.length_append]
       exact ⟨hown6,Below.grown (((HI.out.2.alloc HSZ.out _).alloc (by have:=HSZ.out;simp;omega) _)) hgr6 (by have:=HSZ.out;simp;omega) (fun y hy=>(HI.out.1.lt y hy).1)⟩
      clear hown6 hgr6
      go_roundw
      case rel=>exact ⟨k+1,_,by omega,by go_num,rfl,HN6⟩
      case measure=>simp [intOf];omega
     ·have d2:decide ((0:Int)≤x2)=false:=decide_eq_false h2
      have HE:=Lib.hid (show clipF (l.take (k+1))=clipF (l.take k) by rw [HTK.out];unfold clip;rw [if_neg (by simp only [];omega),List.append_nil])
      clear HTK
      go_wp2_with fail
      have HN6:Hid (∀W,Below wr.heap.size wr W→W.ownsRow w.heap.size 141 2 u3 (clipF (l.take (k+1))).length (rgs (clipF (l.take (k+1))))∧Below w.heap.size w W):=fun W hb=>by
       rw [HE.out]
       exact ⟨own_below HI.out.1 hb,HI.out.2.trans (hb.mono HSZ.out)⟩
      go_roundw
      case rel=>exact ⟨k+1,_,by omega,by go_num,rfl,HN6.out _ (by first | exact (Below.refl _ _).alloc (Nat.le_refl _) _ | skip)⟩
      case measure=>simp [intOf];omega
   ·have d0:decide (x1 < 0)=false:=decide_eq_false h0
    by_cases h1:1114111 < x2
    ·have d1:decide (1114111 < x2)=true:=decide_eq_true h1
     by_cases h2:x1≤1114111
     ·have d2:decide (x1≤1114111)=true:=decide_eq_true h2
      have HE:=Lib.hid (show clipF (l.take (k+1))=clipF (l.take k)++[(x1,1114111)] by rw [HTK.out];unfold clip;rw [if_pos (by simp only [];omega),show max x1 0=x1 by omega,show min x2 1114111=1114111 by omega])
      clear HTK
      obtain ⟨CL,hCL⟩:∃CL,CL=clipF (l.take k):=⟨_,rfl⟩
      rw [←hCL] at HE HLEN HI
      clear hCL
      go_wp2_with (at_builtin;refine wpList_append_rd _ rfl (.tmp 29) (.tmp 31) _ rfl w.heap.size 141 i0 _ 2 8 Tryz.underlying72 hi hz0 hz1 hz2 rfl (by decide) u3 CL.length (rgs CL) rfl (by first | exact (HI.out.1.alloc _).alloc _ | skip) _ (some ⟨wr.heap.size+1,0,none⟩) 1 1 (rgs [(x1,1114111)]) rfl rfl (rd_new _ _ (rgs [(x1,1114111)]) _ (by simp)) (rgs_one _) (by have:=HLEN.out;unfold maxLen;omega) (by have:=HLEN.out;omega) (by have:=HSZ.out;simp;omega) ?_;intro v6 w6 hown6 hgr6 _)
      have HN6:Hid (w6.ownsRow w.heap.size 141 2 v6 (clipF (l.take (k+1))).length (rgs (clipF (l.take (k+1))))∧Below w.heap.size w w6):=by
       rw [HE.out,rgs_append,List.length_append]
       exact ⟨hown6,Below.grown (((HI.out.2.alloc HSZ.out _).alloc (by have:=HSZ.out;simp;omega) _)) hgr6 (by have:=HSZ.out;simp;omega) (fun y hy=>(HI.out.1.lt y hy).1)⟩
      clear hown6 hgr6
      go_roundw
      case rel=>exact ⟨k+1,_,by omega,by go_num,rfl,HN6⟩
      case measure=>simp [intOf];omega
     ·have d2:decide (x1≤1114111)=false:=decide_eq_false h2
      have HE:=Lib.hid (show clipF (l.take (k+1))=clipF (l.take k) by rw [HTK.out];unfold clip;rw [if_neg (by simp only [];omega),List.append_nil])
      clear HTK
      go_wp2_with fail
      have HN6:Hid (∀W,Below wr.heap.size wr W→W.ownsRow w.heap.size 141 2 u3 (clipF (l.take (k+1))).length (rgs (clipF (l.take (k+1))))∧Below w.heap.size w W):=fun W hb=>by
       rw [HE.out]
       exact ⟨own_below HI.out.1 hb,HI.out.2.trans (hb.mono HSZ.out)⟩
      go_roundw
      case rel=>exact ⟨k+1,_,by omega,by go_num,rfl,HN6.out _ (by first | exact (Below.refl _ _).alloc (Nat.le_refl _) _ | skip)⟩
      case measure=>simp [intOf];omega
    ·have d1:decide (1114111 < x2)=false:=decide_eq_false h1
     by_cases h2:x1≤x2
     ·have d2:decide (x1≤x2)=true:=decide_eq_true h2
      have HE:=Lib.hid (show clipF (l.take (k+1))=clipF (l.take k)++[(x1,x2)] by rw [HTK.out];unfold clip;rw [if_pos (by simp only [];omega),show max x1 0=x1 by omega,show min x2 1114111=x2 by omega])
      clear HTK
      obtain ⟨CL,hCL⟩:∃CL,CL=clipF (l.take k):=⟨_,rfl⟩
      rw [←hCL] at HE HLEN HI
      clear hCL
      go_wp2_with (at_builtin;refine wpList_append_rd _ rfl (.tmp 29) (.tmp 31) _ rfl w.heap.size 141 i0 _ 2 8 Tryz.underlying72 hi hz0 hz1 hz2 rfl (by decide) u3 CL.length (rgs CL) rfl (by first | exact (HI.out.1.alloc _).alloc _ | skip) _ (some ⟨wr.heap.size+1,0,none⟩) 1 1 (rgs [(x1,x2)]) rfl rfl (rd_new _ _ (rgs [(x1,x2)]) _ (by simp)) (rgs_one _) (by have:=HLEN.out;unfold maxLen;omega) (by have:=HLEN.out;omega) (by have:=HSZ.out;simp;omega) ?_;intro v6 w6 hown6 hgr6 _)
      have HN6:Hid (w6.ownsRow w.heap.size 141 2 v6 (clipF (l.take (k+1))).length (rgs (clipF (l.take (k+1))))∧Below w.heap.size w w6):=by
       rw [HE.out,rgs_append,List.length_append]
       exact ⟨hown6,Below.grown (((HI.out.2.alloc HSZ.out _).alloc (by have:=HSZ.out;simp;omega) _)) hgr6 (by have:=HSZ.out;simp;omega) (fun y hy=>(HI.out.1.lt y hy).1)⟩
      clear hown6 hgr6
      go_roundw
      case rel=>exact ⟨k+1,_,by omega,by go_num,rfl,HN6⟩
      case measure=>simp [intOf];omega
     ·have d2:decide (x1≤x2)=false:=decide_eq_false h2
      have HE:=Lib.hid (show clipF (l.take (k+1))=clipF (l.take k) by rw [HTK.out];unfold clip;rw [if_neg (by simp only [];omega),List.append_nil])
      clear HTK
      go_wp2_with fail
      have HN6:Hid (∀W,Below wr.heap.size wr W→W.ownsRow w.heap.size 141 2 u3 (clipF (l.take (k+1))).length (rgs (clipF (l.take (k+1))))∧Below w.heap.size w W):=fun W hb=>by
       rw [HE.out]
       exact ⟨own_below HI.out.1 hb,HI.out.2.trans (hb.mono HSZ.out)⟩
      go_roundw
      case rel=>exact ⟨k+1,_,by omega,by go_num,rfl,HN6.out _ (by first | exact (Below.refl _ _).alloc (Nat.le_refl _) _ | skip)⟩
      case measure=>simp [intOf];omega
  ·have HE:=Lib.hid (show clipF (l.take k)=clipF l by rw [List.take_of_length_le (by have:=HN.out;omega)])
   have HO:Hid (wr.ownsRow w.heap.size 141 2 u3 (clipF l).length (rgs (clipF l))∧Below w.heap.size w wr):=by
    have h:=HI.out
    rw [HE.out] at h
    exact h
   go_wp2_with fail
   go_ret
   exact ⟨_,rfl,HO.out.1,HO.out.2⟩
end Go.Proofs.YtegdbmbenjnacaaGreat.Rset
