/-
  Texts of stage 7, part 41.
-/
import Derived.Test.YtkgeiokckfpjlaaGreatDoorM37
import Derived.Test.YtkgeiokckfpjlaaGreatDoorM38
import Derived.Test.YtkgeiokckfpjlaaGreatDoorM40
namespace Go.Proofs.YtkgeiokckfpjlaaGreatDoor.Syn
open Go.RowKit
open Utf (Rd Blk bys Pt enc encN fix dec)
open Norm (normal)
open Ucd (Laid)
open Rset (Ret own_form)
open Norm (own_keep Chg)
open Sset (St Tx normS none_)
set_option maxRecDepth 100000
theorem parse_len {E:Env} {b:List UInt8} {l:List Nd} (h:parseF E b=.ok l):l.length≤8193∧l≠[]:=by
 obtain ⟨_,h2,h3⟩:=parse_ok h
 refine ⟨?_,pattern_some E h3⟩
 have hle:=le_choice E 32 (tx b)
 unfold pattern at h3
 cases hc:choice E 32 (tx b) with
 | error e=>rw [hc] at h3;cases h3
 | ok q =>
  obtain ⟨l',s⟩:=q
  rw [hc] at h3 hle
  dsimp only at h3
  split at h3
  ·injection h3 with h3
   subst h3
   have:l'.length+2*s.length≤2*(tx b).length+1:=hle _ _ rfl
   omega
  ·cases h3
structure Got (w:World) (B:Nat) (A:Option Addr) (n c:Nat) (V:List NV) (l:List Nd):Prop where
 own:w.ownsRow B 41 6 (.slice A n c) n (nvs V)
 rd:Rd w w.heap.size A (nvs V)
 len:V.length=n
 len2:l.length=n
 sm:n≤8193
 nc:n≤c
 held:∀(i:Nat) (h1:i < V.length) (h2:i < l.length),Held w B V[i] l[i]
section
variable {w w':World} {B n c:Nat} {A:Option Addr} {V:List NV} {l:List Nd}
theorem Got.arg (h:Got w B A n c V l):ArgN w A n V l:=⟨h.rd,h.len,h.len2,fun i h1 h2=>(h.held i h1 h2).means,by have:=h.sm;omega⟩
theorem Got.next (h:Got w B A n c V l) (hb:Below w.heap.size w w'):Got w' B A n c V l :=
 ⟨own_keep h.own (Chg.of_below hb (Nat.le_refl _):Chg w w' fun _=>False) (fun _ _ e=>e),(h.rd.below hb).more hb.size,h.len,h.len2,h.sm,h.nc,fun i h1 h2=>(h.held i h1 h2).next hb⟩
theorem got_of {E:Env} {b:List UInt8} {v:Value} (hp:parseF E b=.ok l) (h:AnsOk w l v w'):∃A n c V,v=.slice A n c∧l.length=n∧Got w' w.heap.size A n c V l:=by
 obtain ⟨V,ho,hl,hh⟩:=h
 obtain ⟨A,c,rfl,hnc,_,hr⟩:=own_form ho
 exact ⟨A,l.length,c,V,rfl,rfl,ho,hr,hl,rfl,(parse_len hp).1,hnc,hh⟩
end
theorem parse_good (l:List UInt8) (A:Option Addr) (m c:Nat) (w:World) (hL:Laid w) (hr:Rd w w.heap.size A (bys l)) (hm:l.length=m) (hc:m≤c) (hcm:c≤9223372036854775807) (hsm:m≤134217728) {L:List Nd} (e:parseF theE l=.ok L) :
  Calls Tryz.prog 18 #[.slice A m c] w fun e w'=>∃A n c V,e=.returned (.tuple #[.slice A n c,.int .i64 0,.int .i64 0])∧L.length=n∧Got w' w.heap.size A n c V L∧Below w.heap.size w w':=by
 refine (parse_any l A m c w hL hr hm hc hcm hsm).mono fun x w' h=>?_
 rw [e] at h
 obtain ⟨⟨v,rfl,ha⟩,hb⟩:=h
 obtain ⟨A,n,c,V,rfl,h1,h2⟩:=got_of e ha
 exact ⟨A,n,c,V,rfl,h1,h2,hb⟩
theorem parse_no (l:List UInt8) (A:Option Addr) (m c:Nat) (w:World) (hL:Laid w) (hr:Rd w w.heap.size A (bys l)) (hm:l.length=m) (hc:m≤c) (hcm:c≤9223372036854775807) (hsm:m≤134217728) {k x:Nat} (e:parseF theE l=.error (k,x)) :
  Calls Tryz.prog 18 #[.slice A m c] w (Ret w (.tuple #[.slice none 0 0,.int .i64 (k:Int),.int .i64 (x:Int)])):=by
 refine (parse_any l A m c w hL hr hm hc hcm hsm).mono fun y w' h=>?_
 rw [e] at h
 exact h
theorem getN {V:List NV} {l:List Nd} {w:World} {B n c:Nat} {A:Option Addr} (h:Got w B A n c V l) {k:Nat} (hk:k < n):∃b o,A=some ⟨b,o,none⟩∧b < w.heap.size∧∃hv:k < V.length,∃hl:k < l.length,Held w B V[k] l[k] ∧
  w.cell? ⟨b,o+k*6,none⟩=some (.int .i64 l[k].kind)∧w.cell? ⟨b,o+k*6+4,none⟩=some (.int .i64 l[k].mn)∧w.cell? ⟨b,o+k*6+5,none⟩=some (.int .i64 l[k].mx):=by
 have hv:k < V.length:=by rw [h.len];exact hk
 have hl:k < l.length:=by rw [h.len2];exact hk
 obtain ⟨b,o,rfl,hb⟩:=nv_form h.rd (by omega)
 have hd:=h.held k hv hl
 obtain ⟨d0,_,_,_,d4,d5⟩:=rd_nv h.rd hv
 rw [hd.k] at d0;rw [hd.mn] at d4;rw [hd.mx] at d5
 exact ⟨b,o,rfl,hb,hv,hl,hd,d0,d4,d5⟩
end Go.Proofs.YtkgeiokckfpjlaaGreatDoor.Syn
namespace Go.Proofs.YtkgeiokckfpjlaaGreatDoor.Syn
open Go.RowKit
open Utf (Rd Blk bys Pt enc encN fix dec)
open Norm (normal)
open Ucd (Laid)
open Rset (Ret own_form)
open Sset (St Tx normS none_ ofS ofS_nm)
set_option maxRecDepth 100000
theorem conv_lits (n:Nat) (w:World) (C:Array Value):(convert 25 25 (.slice (some ⟨w.heap.size,0,none⟩) n n)).run Tryz.prog (w.alloc (.cells C 5))=.ok (.slice (some ⟨w.heap.size,0,none⟩) n n) (w.alloc (.cells C 5 (C.size,C.size+1))):=by
 have hsh:(w.alloc (.cells C 5)).shape? w.heap.size=some (5,C.size):=by
  have:(w.alloc (.cells C 5)).heap[w.heap.size]? = some (.cells C 5):=heap_alloc_new w _
  unfold World.shape?
  rw [this]
 have hfr:(w.alloc (.cells C 5)).freeze ⟨w.heap.size,C.size,none⟩ 1=w.alloc (.cells C 5 (C.size,C.size+1)):=by
  have hm:∀(a:Array Obj) (x:Obj) (f:Obj→Obj),(a.push x).modify a.size f=a.push (f x):=by
   intro a x f
   apply Array.ext
   ·simp
   ·intro i h1 h2
    simp only [Array.getElem_modify,Array.getElem_push]
    by_cases h:a.size=i
    ·subst h
     simp
    ·have hi:i < a.size:=by simp at h1;omega
     simp [h,hi]
  unfold World.freeze
  rw [if_neg (by decide)]
  show ({ w.alloc (.cells C 5) with heap:=(w.heap.push (.cells C 5)).modify w.heap.size _ }:World)=_
  rw [hm]
  rfl
 simp [convert,run_underlying Tryz.underlying25,run_underlying Tryz.underlying5,markStringish,hsh]
 exact hfr
theorem rd_lit (u:World) (t:TypeId) (fr:Nat × Nat) (cs:List Value):Rd (u.alloc (.cells cs.toArray t fr)) (u.heap.size+1) (some ⟨u.heap.size,0,none⟩) cs:=fun _ =>
 ⟨u.heap.size,0,rfl,by omega,fun j x hx=>by
  rw [cell_of_row (u.alloc (.cells cs.toArray t fr)) u.heap.size (0+j) _ t fr (heap_alloc_new u _),Nat.zero_add]
  simpa using hx⟩
theorem pf1:parseF theE [97,98,124,99,42]=.ok [ndS (ofS [97]),ndS (ofS [98]),nd 5,ndS (ofS [99]),ndR 0 (-1),nd 6]:=by
 unfold parseF
 rw [show tx [97,98,124,99,42]=[[97],[98],[124],[99],[42]] by decide +kernel]
 unfold parseT
 rw [show ([[97],[98],[124],[99],[42]]:List Tx).any (fun t=>decide (64 < rlen t))=false by decide +kernel,if_neg (by decide),if_neg (by decide)]
 exact ex1 theE
theorem pf2:parseF theE [97,123,51,44,50,125]=.error (4,2):=by
 unfold parseF
 rw [show tx [97,123,51,44,50,125]=[[97],[123],[51],[44],[50],[125]] by decide +kernel]
 unfold parseT
 rw [show ([[97],[123],[51],[44],[50],[125]]:List Tx).any (fun t=>decide (64 < rlen t))=false by decide +kernel,if_neg (by decide),if_neg (by decide)]
 exact ex2 theE
theorem pf3:parseF theE [42,204,129]=.ok [ndS (ofS [42,204,129])]:=by
 unfold parseF
 rw [show tx [42,204,129]=[[42,204,129]] by decide +kernel]
 unfold parseT
 rw [show ([[42,204,129]]:List Tx).any (fun t=>decide (64 < rlen t))=false by decide +kernel,if_neg (by decide),if_neg (by decide)]
 exact ex3 theE
theorem qf:quoteB (tx [97,46,98])=[97,92,46,98]:=by decide +kernel
theorem ofS_norm (t:Tx):normS (ofS t)=ofS t:=Sset.normS_id (ofS_nm t)
theorem mf1:mayF [ndS (ofS [97]),ndS (ofS [98]),nd 5,ndS (ofS [99]),ndR 0 (-1),nd 6]=true:=by
 unfold mayF
 rw [decide_eq_true_eq]
 have e1:∀(h:Int) (t:Tx),mayStep h (ndS (ofS t))=some (h+1):=fun h t=>by
  unfold mayStep ndS
  dsimp only
  rw [if_neg (show ¬((2:Int)=7) by decide),if_neg (show ¬((0:Int)≠0∨(0:Int)≠0) by decide),if_pos rfl]
  exact if_pos (ofS_norm t)
 have e5:mayStep (0+1+1) (nd 5)=some (0+1):=by simp [mayStep,nd]
 have e7:mayStep (0+1+1) (ndR 0 (-1))=some (0+1+1):=by simp [mayStep,ndR]
 have e6:mayStep (0+1+1) (nd 6)=some (0+1):=by simp [mayStep,nd]
 show mayL (mayStep 0 (ndS (ofS [97]))) _=_
 rw [e1]
 show mayL (mayStep (0+1) (ndS (ofS [98]))) _=_
 rw [e1]
 show mayL (mayStep (0+1+1) (nd 5)) _=_
 rw [e5]
 show mayL (mayStep (0+1) (ndS (ofS [99]))) _=_
 rw [e1]
 show mayL (mayStep (0+1+1) (ndR 0 (-1))) _=_
 rw [e7]
 show mayL (mayStep (0+1+1) (nd 6)) _=_
 rw [e6]
 rfl
theorem mf2:mayF []=false:=by
 unfold mayF
 rw [decide_eq_false_iff_not]
 intro e
 have e:some (0:Int)=some 1:=e
 simp at e
structure F0 (base:Nat) (w wk:World):Prop where
 bel:Below base w wk
 laid:Laid wk
 le:base≤wk.heap.size
theorem F0.next {base:Nat} {w wk wl:World} (h:F0 base w wk) (hb:Below wk.heap.size wk wl):F0 base w wl:=⟨h.bel.trans (hb.mono h.le),h.laid.next hb,Nat.le_trans h.le hb.size⟩
theorem F0.alloc {base:Nat} {w wk:World} (h:F0 base w wk) (o:Obj):F0 base w (wk.alloc o):=h.next ((Below.refl _ _).alloc (Nat.le_refl _) o)
theorem below_new (w:World) (o:Obj):Below w.heap.size w (w.alloc o):=(Below.refl _ _).alloc (Nat.le_refl _) o
set_option maxHeartbeats 16000000 in
theorem fixed_any (w:World) (hL:Laid w):Calls Tryz.prog 14 #[] w (Ret w (.bool true)):=by
 have X0:=Lib.hid (show F0 w.heap.size w w from ⟨Below.refl _ _,hL,Nat.le_refl _⟩)
 obtain ⟨base,hbase⟩:∃base,base=w.heap.size:=⟨_,rfl⟩
 have HBE:=Lib.hid hbase
 rw [←hbase] at X0
 have X1:=Lib.hid (X0.out.alloc (.cells (bys [97,98,124,99,42]).toArray 5 (5,6)))
 have hcv:(convert 25 25 (.slice (some ⟨w.heap.size,0,none⟩) 5 5)).run Tryz.prog (w.alloc (.cells #[.int .u8 97,.int .u8 98,.int .u8 124,.int .u8 99,.int .u8 42] 5))=.ok (.slice (some ⟨w.heap.size,0,none⟩) 5 5) (w.alloc (.cells (bys [97,98,124,99,42]).toArray 5 (5,6))):=conv_lits 5 w _
 clear hL hbase
 go_enter Tryz.func14,Tryz.ntmps14
 go_wp2_with fail
 refine (parse_good _ _ 5 5 _ X1.out.laid ((rd_lit w _ (5,6) (bys [97,98,124,99,42])).more (by simp)) rfl (Nat.le_refl _) (by decide) (by decide) pf1).mono ?_
 rintro e w2 ⟨A1,n1,c1,V1,rfl,rfl,HG1,hb2⟩
 have X2:=Lib.hid (X1.out.next hb2)
 have G1:=Lib.hid HG1
 clear HG1 hb2 hcv X0 X1
 have X3:=Lib.hid (X2.out.alloc (.cells (bys [97,123,51,44,50,125]).toArray 5 (6,7)))
 replace G1:=Lib.hid (G1.out.next (below_new _ (.cells (bys [97,123,51,44,50,125]).toArray 5 (6,7))))
 have hcv:(convert 25 25 (.slice (some ⟨w2.heap.size,0,none⟩) 6 6)).run Tryz.prog (w2.alloc (.cells #[.int .u8 97,.int .u8 123,.int .u8 51,.int .u8 44,.int .u8 50,.int .u8 125] 5))=.ok (.slice (some ⟨w2.heap.size,0,none⟩) 6 6) (w2.alloc (.cells (bys [97,123,51,44,50,125]).toArray 5 (6,7))):=conv_lits 6 w2 _
 go_wp2_with fail
 refine (parse_no _ _ 6 6 _ X3.out.laid ((rd_lit w2 _ (6,7) (bys [97,123,51,44,50,125])).more (by simp)) rfl (Nat.le_refl _) (by decide) (by decide) pf2).mono ?_
 rintro e w4 ⟨rfl,hb4⟩
 have X4:=Lib.hid (X3.out.next hb4)
 replace G1:=Lib.hid (G1.out.next hb4)
 clear hb4 hcv X2 X3
 have X5:=Lib.hid (X4.out.alloc (.cells (bys [42,204,129]).toArray 5 (3,4)))
 replace G1:=Lib.hid (G1.out.next (below_new _ (.cells (bys [42,204,129]).toArray 5 (3,4))))
 have hcv:(convert 25 25 (.slice (some ⟨w4.heap.size,0,none⟩) 3 3)).run Tryz.prog (w4.alloc (.cells #[.int .u8 42,.int .u8 204,.int .u8 129] 5))=.ok (.slice (some ⟨w4.heap.size,0,none⟩) 3 3) (w4.alloc (.cells (bys [42,204,129]).toArray 5 (3,4))):=conv_lits 3 w4 _
 go_wp2_with fail
 refine (parse_good _ _ 3 3 _ X5.out.laid ((rd_lit w4 _ (3,4) (bys [42,204,129])).more (by simp)) rfl (Nat.le_refl _) (by decide) (by decide) pf3).mono ?_
 rintro e w6 ⟨A3,n3,c3,V3,rfl,rfl,HG3,hb6⟩
 have X6:=Lib.hid (X5.out.next hb6)
 replace G1:=Lib.hid (G1.out.next hb6)
 clear hb6 hcv X4 X5 HG3
 obtain ⟨b,o,e1,hbl,_,_,_,p5,_,_⟩:=getN G1.out (k:=5) (by decide)
 obtain ⟨b',o',e2,_,_,_,_,_,_,p4⟩:=getN G1.out (k:=4) (by decide)
 rw [e1] at e2
 simp only [Option.some.injEq,Addr.mk.injEq,and_true] at e2
 obtain ⟨rfl,rfl⟩:=e2
 subst e1
 replace p5:w6.cell? ⟨b,o+30,none⟩=some (.int .i64 6):=p5
 replace p4:w6.cell? ⟨b,o+29,none⟩=some (.int .i64 (-1)):=p4
 have hs1:sgn [42]=true:=by decide
 have hs2:sgn [97]=false:=by decide
 go_wp2_with fail
 refine (sign_any [42] _).mono ?_
 rintro e w7 ⟨rfl,rfl⟩
 rw [hs1]
 go_wp2_with fail
 refine (sign_any [97] _).mono ?_
 rintro e w8 ⟨rfl,rfl⟩
 rw [hs2]
 have X7:=Lib.hid (X6.out.alloc (.cells (bys [97,46,98]).toArray 5 (3,4)))
 have hcv:(convert 25 25 (.slice (some ⟨w8.heap.size,0,none⟩) 3 3)).run Tryz.prog (w8.alloc (.cells #[.int .u8 97,.int .u8 46,.int .u8 98] 5))=.ok (.slice (some ⟨w8.heap.size,0,none⟩) 3 3) (w8.alloc (.cells (bys [97,46,98]).toArray 5 (3,4))):=conv_lits 3 w8 _
 have HQ:=Lib.hid (quote_any [97,46,98] (some ⟨w8.heap.size,0,none⟩) 3 3 _ X7.out.laid ((rd_lit w8 _ (3,4) (bys [97,46,98])).more (by simp)) rfl (Nat.le_refl _) (by decide) (by decide))
 rw [qf] at HQ
 replace G1:=Lib.hid (G1.out.next (below_new _ (.cells (bys [97,46,98]).toArray 5 (3,4))))
 clear p5 p4
 go_wp2_with fail
 refine HQ.out.mono ?_
 rintro e w9 ⟨rfl,hb9⟩
 have X9:=Lib.hid (X7.out.next hb9)
 replace G1:=Lib.hid (G1.out.next hb9)
 have HM:=Lib.hid (may_any _ _ _ 6 c1 w9 G1.out.arg)
 rw [mf1] at HM
 clear hb9 hcv HQ
 have hql:((⟨#[97,92,46,98]⟩:ByteArray).toList == (⟨#[97,92,46,98]⟩:ByteArray).toList)=true:=beq_self_eq_true _
 go_wp2_with fail
 refine HM.out.mono ?_
 rintro e w10 ⟨rfl,hb10⟩
 have X10:=Lib.hid (X9.out.next hb10)
 have HM2:=Lib.hid (may_any none [] [] 0 0 w10 ⟨fun h=>absurd rfl h,rfl,rfl,fun i h=>absurd h (Nat.not_lt_zero _),by decide⟩)
 rw [mf2] at HM2
 clear hb10
 go_wp2_with fail
 refine HM2.out.mono ?_
 rintro e w11 ⟨rfl,hb11⟩
 have X11:=Lib.hid (X10.out.next hb11)
 clear hb11
 go_wp2_with fail
 go_ret
 exact ⟨rfl,by have h:=X11.out.bel;rwa [HBE.out] at h⟩
end Go.Proofs.YtkgeiokckfpjlaaGreatDoor.Syn
