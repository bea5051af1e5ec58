/-
  Texts of stage 7, part 38.
-/
import Derived.Laws.Concat
import Derived.Test.YtkgeiokckfpjlaaGreatDoorK28
import Derived.Test.YtkgeiokckfpjlaaGreatDoorK30
import Derived.Test.YtkgeiokckfpjlaaGreatDoorK35
import Derived.Test.YtkgeiokckfpjlaaGreatDoorK36
import Derived.Test.YtkgeiokckfpjlaaGreatDoorK37
namespace Go.Proofs.YtkgeiokckfpjlaaGreatDoor.Syn
open Go.RowKit
open Utf (Rd Blk bys Pt enc encN fix dec)
open Norm (normal)
open Ucd (Laid)
open Rset (Ret own_form)
open Norm (own_keep Chg)
open Sset (St Tx normS none_)
set_option maxRecDepth 100000
theorem parse_len {E:Env} {b:List UInt8} {l:List Nd} (h:parseF E b=.ok l):l.length≤8193∧l≠[]:=by
 obtain ⟨_,h2,h3⟩:=parse_ok h
 refine ⟨?_,pattern_some E h3⟩
 have hle:=le_choice E 32 (tx b)
 unfold pattern at h3
 cases hc:choice E 32 (tx b) with
 | error e=>rw [hc] at h3;cases h3
 | ok q =>
  obtain ⟨l',s⟩:=q
  rw [hc] at h3 hle
  dsimp only at h3
  split at h3
  ·injection h3 with h3
   subst h3
   have:l'.length+2*s.length≤2*(tx b).length+1:=hle _ _ rfl
   omega
  ·cases h3
structure Got (w:World) (B:Nat) (A:Option Addr) (n c:Nat) (V:List NV) (l:List Nd):Prop where
 own:w.ownsRow B 41 6 (.slice A n c) n (nvs V)
 rd:Rd w w.heap.size A (nvs V)
 len:V.length=n
 len2:l.length=n
 sm:n≤8193
 nc:n≤c
 held:∀(i:Nat) (h1:i < V.length) (h2:i < l.length),Held w B V[i] l[i]
section
variable {w w':World} {B n c:Nat} {A:Option Addr} {V:List NV} {l:List Nd}
theorem Got.arg (h:Got w B A n c V l):ArgN w A n V l:=⟨h.rd,h.len,h.len2,fun i h1 h2=>(h.held i h1 h2).means,by have:=h.sm;omega⟩
theorem Got.next (h:Got w B A n c V l) (hb:Below w.heap.size w w'):Got w' B A n c V l :=
 ⟨own_keep h.own (Chg.of_below hb (Nat.le_refl _):Chg w w' fun _=>False) (fun _ _ e=>e),(h.rd.below hb).more hb.size,h.len,h.len2,h.sm,h.nc,fun i h1 h2=>(h.held i h1 h2).next hb⟩
theorem got_of {E:Env} {b:List UInt8} {v:Value} (hp:parseF E b=.ok l) (h:AnsOk w l v w'):∃A n c V,v=.slice A n c∧l.length=n∧Got w' w.heap.size A n c V l:=by
 obtain ⟨V,ho,hl,hh⟩:=h
 obtain ⟨A,c,rfl,hnc,_,hr⟩:=own_form ho
 exact ⟨A,l.length,c,V,rfl,rfl,ho,hr,hl,rfl,(parse_len hp).1,hnc,hh⟩
end
theorem parse_good (l:List UInt8) (A:Option Addr) (m c:Nat) (w:World) (hL:Laid w) (hr:Rd w w.heap.size A (bys l)) (hm:l.length=m) (hc:m≤c) (hcm:c≤9223372036854775807) (hsm:m≤134217728) {L:List Nd} (e:parseF theE l=.ok L) :
  Calls Tryz.prog 18 #[.slice A m c] w fun e w'=>∃A n c V,e=.returned (.tuple #[.slice A n c,.int .i64 0,.int .i64 0])∧L.length=n∧Got w' w.heap.size A n c V L∧Below w.heap.size w w':=by
 refine (parse_any l A m c w hL hr hm hc hcm hsm).mono fun x w' h=>?_
 rw [e] at h
 obtain ⟨⟨v,rfl,ha⟩,hb⟩:=h
 obtain ⟨A,n,c,V,rfl,h1,h2⟩:=got_of e ha
 exact ⟨A,n,c,V,rfl,h1,h2,hb⟩
theorem parse_no (l:List UInt8) (A:Option Addr) (m c:Nat) (w:World) (hL:Laid w) (hr:Rd w w.heap.size A (bys l)) (hm:l.length=m) (hc:m≤c) (hcm:c≤9223372036854775807) (hsm:m≤134217728) {k x:Nat} (e:parseF theE l=.error (k,x)) :
  Calls Tryz.prog 18 #[.slice A m c] w (Ret w (.tuple #[.slice none 0 0,.int .i64 (k:Int),.int .i64 (x:Int)])):=by
 refine (parse_any l A m c w hL hr hm hc hcm hsm).mono fun y w' h=>?_
 rw [e] at h
 exact h
theorem getN {V:List NV} {l:List Nd} {w:World} {B n c:Nat} {A:Option Addr} (h:Got w B A n c V l) {k:Nat} (hk:k < n):∃b o,A=some ⟨b,o,none⟩∧b < w.heap.size∧∃hv:k < V.length,∃hl:k < l.length,Held w B V[k] l[k] ∧
  w.cell? ⟨b,o+k*6,none⟩=some (.int .i64 l[k].kind)∧w.cell? ⟨b,o+k*6+4,none⟩=some (.int .i64 l[k].mn)∧w.cell? ⟨b,o+k*6+5,none⟩=some (.int .i64 l[k].mx):=by
 have hv:k < V.length:=by rw [h.len];exact hk
 have hl:k < l.length:=by rw [h.len2];exact hk
 obtain ⟨b,o,rfl,hb⟩:=nv_form h.rd (by omega)
 have hd:=h.held k hv hl
 obtain ⟨d0,_,_,_,d4,d5⟩:=rd_nv h.rd hv
 rw [hd.k] at d0;rw [hd.mn] at d4;rw [hd.mx] at d5
 exact ⟨b,o,rfl,hb,hv,hl,hd,d0,d4,d5⟩
end Go.Proofs.YtkgeiokckfpjlaaGreatDoor.Syn
namespace Go.Proofs.YtkgeiokckfpjlaaGreatDoor.Syn
open Go.RowKit
open Utf (Rd Blk bys Pt enc encN fix dec)
open Norm (normal)
open Ucd (Laid)
open Rset (Ret own_form)
open Sset (St Tx normS none_ ofS ofS_nm)
set_option maxRecDepth 100000
theorem conv_lits (n:Nat) (w:World) (C:Array Value):(convert 25 25 (.slice (some ⟨w.heap.size,0,none⟩) n n)).run Tryz.prog (w.alloc (.cells C 5))=.ok (.slice (some ⟨w.heap.size,0,none⟩) n n) (w.alloc (.cells C 5 (C.size,C.size+1))):=by
 have hsh:(w.alloc (.cells C 5)).shape? w.heap.size=some (5,C.size):=by
  have:(w.alloc (.cells C 5)).heap[w.heap.size]? = some (.cells C 5):=heap_alloc_new w _
  unfold World.shape?
  rw [this]
 have hfr:(w.alloc (.cells C 5)).freeze ⟨w.heap.size,C.size,none⟩ 1=w.alloc (.cells C 5 (C.size,C.size+1)):=by
  have hm:∀(a:Array Obj) (x:Obj) (f:Obj→Obj),(a.push x).modify a.size f=a.push (f x):=by
   intro a x f
   apply Array.ext
   ·simp
   ·intro i h1 h2
    simp only [Array.getElem_modify,Array.getElem_push]
    by_cases h:a.size=i
    ·subst h
     simp
    ·have hi:i < a.size:=by simp at h1;omega
     simp [h,hi]
  unfold World.freeze
  rw [if_neg (by decide)]
  show ({ w.alloc (.cells C 5) with heap:=(w.heap.push (.cells C 5)).modify w.heap.size _ }:World)=_
  rw [hm]
  rfl
 simp [convert,run_underlying Tryz.underlying25,run_underlying Tryz.underlying5,markStringish,hsh]
 exact hfr
theorem rd_lit (u:World) (t:TypeId) (fr:Nat × Nat) (cs:List Value):Rd (u.alloc (.cells cs.toArray t fr)) (u.heap.size+1) (some ⟨u.heap.size,0,none⟩) cs:=fun _ =>
 ⟨u.heap.size,0,rfl,by omega,fun j x hx=>by
  rw [cell_of_row (u.alloc (.cells cs.toArray t fr)) u.heap.size (0+j) _ t fr (heap_alloc_new u _),Nat.zero_add]
  simpa using hx⟩
theorem pf1:parseF theE [97,98,124,99,42]=.ok [ndS (ofS [97]),ndS (ofS [98]),nd 5,ndS (ofS [99]),ndR 0 (-1),nd 6]:=by
 unfold parseF
 rw [show tx [97,98,124,99,42]=[[97],[98],[124],[99],[42]] by decide +kernel]
 unfold parseT
 rw [show ([[97],[98],[124],[99],[42]]:List Tx).any (fun t=>decide (64 < rlen t))=false by decide +kernel,if_neg (by decide),if_neg (by decide)]
 exact ex1 theE
theorem pf2:parseF theE [97,123,51,44,50,125]=.error (4,2):=by
 unfold parseF
 rw [show tx [97,123,51,44,50,125]=[[97],[123],[51],[44],[50],[125]] by decide +kernel]
 unfold parseT
 rw [show ([[97],[123],[51],[44],[50],[125]]:List Tx).any (fun t=>decide (64 < rlen t))=false by decide +kernel,if_neg (by decide),if_neg (by decide)]
 exact ex2 theE
theorem pf3:parseF theE [42,204,129]=.ok [ndS (ofS [42,204,129])]:=by
 unfold parseF
 rw [show tx [42,204,129]=[[42,204,129]] by decide +kernel]
 unfold parseT
 rw [show ([[42,204,129]]:List Tx).any (fun t=>decide (64 < rlen t))=false by decide +kernel,if_neg (by decide),if_neg (by decide)]
 exact ex3 theE
theorem qf:quoteB (tx [97,46,98])=[97,92,46,98]:=by decide +kernel
theorem ofS_norm (t:Tx):normS (ofS t)=ofS t:=Sset.normS_id (ofS_nm t)
theorem mf1:mayF [ndS (ofS [97]),ndS (ofS [98]),nd 5,ndS (ofS [99]),ndR 0 (-1),nd 6]=true:=by
 unfold mayF
 rw [decide_eq_true_eq]
 have e1:∀(h:Int) (t:Tx),mayStep h (ndS (ofS t))=some (h+1):=fun h t=>by
  unfold mayStep ndS
  dsimp only
  rw [if_neg (show ¬((2:Int)=7) by decide),if_neg (show ¬((0:Int)≠0∨(0:Int)≠0) by decide),if_pos rfl]
  exact if_pos (ofS_norm t)
 have e5:mayStep (0+1+1) (nd 5)=some (0+1):=by simp [mayStep,nd]
 have e7:mayStep (0+1+1) (ndR 0 (-1))=some (0+1+1):=by simp [mayStep,ndR]
 have e6:mayStep (0+1+1) (nd 6)=some (0+1):=by simp [mayStep,nd]
 show mayL (mayStep 0 (ndS (ofS [97]))) _=_
 rw [e1]
 show mayL (mayStep (0+1) (ndS (ofS [98]))) _=_
 rw [e1]
 show mayL (mayStep (0+1+1) (nd 5)) _=_
 rw [e5]
 show mayL (mayStep (0+1) (ndS (ofS [99]))) _=_
 rw [e1]
 show mayL (mayStep (0+1+1) (ndR 0 (-1))) _=_
 rw [e7]
 show mayL (mayStep (0+1+1) (nd 6)) _=_
 rw [e6]
 rfl
theorem mf2:mayF []=false:=by
 unfold mayF
 rw [decide_eq_false_iff_not]
 intro e
 have e:some (0:Int)=some 1:=e
 simp at e
structure F0 (base:Nat) (w wk:World):Prop where
 bel:Below base w wk
 laid:Laid wk
 le:base≤wk.heap.size
theorem F0.next {base:Nat} {w wk wl:World} (h:F0 base w wk) (hb:Below wk.heap.size wk wl):F0 base w wl:=⟨h.bel.trans (hb.mono h.le),h.laid.next hb,Nat.le_trans h.le hb.size⟩
theorem F0.alloc {base:Nat} {w wk:World} (h:F0 base w wk) (o:Obj):F0 base w (wk.alloc o):=h.next ((Below.refl _ _).alloc (Nat.le_refl _) o)
theorem below_new (w:World) (o:Obj):Below w.heap.size w (w.alloc o):=(Below.refl _ _).alloc (Nat.le_refl _) o
set_option maxHeartbeats 16000000 in
theorem fixed_any (w:World) (hL:Laid w):Calls Tryz.prog 14 #[] w (Ret w (.bool true)):=by
 have X0:=Lib.hid (show F0 w.heap.size w w from ⟨Below.refl _ _,hL,Nat.le_refl _⟩)
 obtain ⟨base,hbase⟩:∃base,base=w.heap.size:=⟨_,rfl⟩
 have HBE:=Lib.hid hbase
 rw [←hbase] at X0
 have X1:=Lib.hid (X0.out.alloc (.cells (bys [97,98,124,99,42]).toArray 5 (5,6)))
 have hcv:(convert 25 25 (.slice (some ⟨w.heap.size,0,none⟩) 5 5)).run Tryz.prog (w.alloc (.cells #[.int .u8 97,.int .u8 98,.int .u8 124,.int .u8 99,.int .u8 42] 5))=.ok (.slice (some ⟨w.heap.size,0,none⟩) 5 5) (w.alloc (.cells (bys [97,98,124,99,42]).toArray 5 (5,6))):=conv_lits 5 w _
 clear hL hbase
 go_enter Tryz.func14,Tryz.ntmps14
 go_wp2_with fail
 refine (parse_good _ _ 5 5 _ X1.out.laid ((rd_lit w _ (5,6) (bys [97,98,124,99,42])).more (by simp)) rfl (Nat.le_refl _) (by decide) (by decide) pf1).mono ?_
 rintro e w2 ⟨A1,n1,c1,V1,rfl,rfl,HG1,hb2⟩
 have X2:=Lib.hid (X1.out.next hb2)
 have G1:=Lib.hid HG1
 clear HG1 hb2 hcv X0 X1
 have X3:=Lib.hid (X2.out.alloc (.cells (bys [97,123,51,44,50,125]).toArray 5 (6,7)))
 replace G1:=Lib.hid (G1.out.next (below_new _ (.cells (bys [97,123,51,44,50,125]).toArray 5 (6,7))))
 have hcv:(convert 25 25 (.slice (some ⟨w2.heap.size,0,none⟩) 6 6)).run Tryz.prog (w2.alloc (.cells #[.int .u8 97,.int .u8 123,.int .u8 51,.int .u8 44,.int .u8 50,.int .u8 125] 5))=.ok (.slice (some ⟨w2.heap.size,0,none⟩) 6 6) (w2.alloc (.cells (bys [97,123,51,44,50,125]).toArray 5 (6,7))):=conv_lits 6 w2 _
 go_wp2_with fail
 refine (parse_no _ _ 6 6 _ X3.out.laid ((rd_lit w2 _ (6,7) (bys [97,123,51,44,50,125])).more (by simp)) rfl (Nat.le_refl _) (by decide) (by decide) pf2).mono ?_
 rintro e w4 ⟨rfl,hb4⟩
 have X4:=Lib.hid (X3.out.next hb4)
 replace G1:=Lib.hid (G1.out.next hb4)
 clear hb4 hcv X2 X3
 have X5:=Lib.hid (X4.out.alloc (.cells (bys [42,204,129]).toArray 5 (3,4)))
 replace G1:=Lib.hid (G1.out.next (below_new _ (.cells (bys [42,204,129]).toArray 5 (3,4))))
 have hcv:(convert 25 25 (.slice (some ⟨w4.heap.size,0,none⟩) 3 3)).run Tryz.prog (w4.alloc (.cells #[.int .u8 42,.int .u8 204,.int .u8 129] 5))=.ok (.slice (some ⟨w4.heap.size,0,none⟩) 3 3) (w4.alloc (.cells (bys [42,204,129]).toArray 5 (3,4))):=conv_lits 3 w4 _
 go_wp2_with fail
 refine (parse_good _ _ 3 3 _ X5.out.laid ((rd_lit w4 _ (3,4) (bys [42,204,129])).more (by simp)) rfl (Nat.le_refl _) (by decide) (by decide) pf3).mono ?_
 rintro e w6 ⟨A3,n3,c3,V3,rfl,rfl,HG3,hb6⟩
 have X6:=Lib.hid (X5.out.next hb6)
 replace G1:=Lib.hid (G1.out.next hb6)
 clear hb6 hcv X4 X5 HG3
 obtain ⟨b,o,e1,hbl,_,_,_,p5,_,_⟩:=getN G1.out (k:=5) (by decide)
 obtain ⟨b',o',e2,_,_,_,_,_,_,p4⟩:=getN G1.out (k:=4) (by decide)
 rw [e1] at e2
 simp only [Option.some.injEq,Addr.mk.injEq,and_true] at e2
 obtain ⟨rfl,rfl⟩:=e2
 subst e1
 replace p5:w6.cell? ⟨b,o+30,none⟩=some (.int .i64 6):=p5
 replace p4:w6.cell? ⟨b,o+29,none⟩=some (.int .i64 (-1)):=p4
 have hs1:sgn [42]=true:=by decide
 have hs2:sgn [97]=false:=by decide
 go_wp2_with fail
 refine (sign_any [42] _).mono ?_
 rintro e w7 ⟨rfl,rfl⟩
 rw [hs1]
 go_wp2_with fail
 refine (sign_any [97] _).mono ?_
 rintro e w8 ⟨rfl,rfl⟩
 rw [hs2]
 have X7:=Lib.hid (X6.out.alloc (.cells (bys [97,46,98]).toArray 5 (3,4)))
 have hcv:(convert 25 25 (.slice (some ⟨w8.heap.size,0,none⟩) 3 3)).run Tryz.prog (w8.alloc (.cells #[.int .u8 97,.int .u8 46,.int .u8 98] 5))=.ok (.slice (some ⟨w8.heap.size,0,none⟩) 3 3) (w8.alloc (.cells (bys [97,46,98]).toArray 5 (3,4))):=conv_lits 3 w8 _
 have HQ:=Lib.hid (quote_any [97,46,98] (some ⟨w8.heap.size,0,none⟩) 3 3 _ X7.out.laid ((rd_lit w8 _ (3,4) (bys [97,46,98])).more (by simp)) rfl (Nat.le_refl _) (by decide) (by decide))
 rw [qf] at HQ
 replace G1:=Lib.hid (G1.out.next (below_new _ (.cells (bys [97,46,98]).toArray 5 (3,4))))
 clear p5 p4
 go_wp2_with fail
 refine HQ.out.mono ?_
 rintro e w9 ⟨rfl,hb9⟩
 have X9:=Lib.hid (X7.out.next hb9)
 replace G1:=Lib.hid (G1.out.next hb9)
 have HM:=Lib.hid (may_any _ _ _ 6 c1 w9 G1.out.arg)
 rw [mf1] at HM
 clear hb9 hcv HQ
 have hql:((⟨#[97,92,46,98]⟩:ByteArray).toList == (⟨#[97,92,46,98]⟩:ByteArray).toList)=true:=beq_self_eq_true _
 go_wp2_with fail
 refine HM.out.mono ?_
 rintro e w10 ⟨rfl,hb10⟩
 have X10:=Lib.hid (X9.out.next hb10)
 have HM2:=Lib.hid (may_any none [] [] 0 0 w10 ⟨fun h=>absurd rfl h,rfl,rfl,fun i h=>absurd h (Nat.not_lt_zero _),by decide⟩)
 rw [mf2] at HM2
 clear hb10
 go_wp2_with fail
 refine HM2.out.mono ?_
 rintro e w11 ⟨rfl,hb11⟩
 have X11:=Lib.hid (X10.out.next hb11)
 clear hb11
 go_wp2_with fail
 go_ret
 exact ⟨rfl,by have h:=X11.out.bel;rwa [HBE.out] at h⟩
end Go.Proofs.YtkgeiokckfpjlaaGreatDoor.Syn
namespace Go.Proofs.YtkgeiokckfpjlaaGreatDoor.Syn
open Go.RowKit
open Utf (Rd Blk bys bys_len)
open Ucd (Laid)
open Rset (Ret own_form rgs)
open Sset (Tx none_ has3_none txs)
open Norm (own_keep Chg)
set_option maxRecDepth 100000
noncomputable def lst (b:List UInt8):List Nd:=match parseF theE b with
 | .ok L=>L
 | .error _=>[]
theorem got_nil (w:World) (B:Nat):Got w B none 0 0 [] [] :=
 ⟨World.ownsRow_nil _ _ _ _,fun h=>absurd rfl h,rfl,rfl,by decide,Nat.le_refl _,fun i h=>absurd h (Nat.not_lt_zero _)⟩
theorem parse_got (l:List UInt8) (A:Option Addr) (m c:Nat) (w:World) (hL:Laid w) (hr:Rd w w.heap.size A (bys l)) (hm:l.length=m) (hc:m≤c) (hcm:c≤9223372036854775807) (hsm:m≤134217728) :
  Calls Tryz.prog 18 #[.slice A m c] w fun e w'=>∃A n c V k E,e=.returned (.tuple #[.slice A n c,.int .i64 k,.int .i64 E])∧Got w' w.heap.size A n c V (lst l)∧Below w.heap.size w w':=by
 refine (parse_any l A m c w hL hr hm hc hcm hsm).mono fun x w' h=>?_
 cases hp:parseF theE l with
 | ok L =>
  rw [hp] at h
  obtain ⟨⟨v,rfl,ha⟩,hb⟩:=h
  obtain ⟨A,n,c,V,rfl,h1,h2⟩:=got_of hp ha
  exact ⟨A,n,c,V,0,0,rfl,by unfold lst;rw [hp];exact h2,hb⟩
 | error q =>
  obtain ⟨n,y⟩:=q
  rw [hp] at h
  obtain ⟨rfl,hb⟩:=h
  exact ⟨none,0,0,[],n,y,rfl,by unfold lst;rw [hp];exact got_nil _ _,hb⟩
def Rw (B E g0:Nat) (w:World) (A:Option Addr) (m:Nat):Prop:=m=0∨∃g,A=some ⟨g,0,none⟩∧B≤g∧g < E∧g≠g0∧∀j,j < m→(∃v,w.cell? ⟨g,j,none⟩=some v)∧w.frozen? ⟨g,j,none⟩=false
section
variable {B E g0 m:Nat} {u u':World} {A:Option Addr}
theorem Rw.of {sz n k c:Nat} {e:TypeId} {xs:List Value} (h:u.ownsRow B e sz (.slice A k c) n xs) (hE:u.heap.size≤E) (hg:g0 < u.heap.size→∃cs fr,u.heap[g0]? = some (.cells cs 41 fr)) (he:e≠41):Rw B E g0 u A (k*sz):=by
 rcases h.2 with ⟨h1,_⟩ | ⟨g,cap,cur,hv,h1,h2,_⟩
 ·left
  injection h1 with _ h2 _
  rw [h2,Nat.zero_mul]
 ·right
  injection hv with hA hn hc
  subst hA hn hc
  have hlt:g < u.heap.size:=(Array.getElem?_eq_some_iff.1 h2).1
  refine ⟨g,rfl,h1,by omega,fun e2=>?_,fun j hj=>⟨⟨xs[j]'(by rw [h.1];exact hj),?_⟩,h.frozenAt j⟩⟩
  ·subst e2
   obtain ⟨cs,fr,hq⟩:=hg hlt
   rw [h2] at hq
   injection hq with hq
   injection hq with _ hq _
   exact he hq
  ·rw [h.cellAt j hj,List.getElem?_eq_getElem]
theorem Rw.set (h:Rw B E g0 u A m) (p:Addr) (v:Value):Rw B E g0 (u.setCell p v) A m:=by
 rcases h with h | ⟨g,h1,h2,h3,h4,h5⟩
 ·exact .inl h
 ·refine .inr ⟨g,h1,h2,h3,h4,fun j hj=>?_⟩
  obtain ⟨⟨x,hx⟩,hf⟩:=h5 j hj
  exact ⟨cell?_setCell_some hx,by rw [World.frozen?_setCell];exact hf⟩
theorem Rw.below {D:Nat} (h:Rw B E g0 u A m) (hb:Below D u u') (hE:E≤D):Rw B E g0 u' A m:=by
 rcases h with h | ⟨g,h1,h2,h3,h4,h5⟩
 ·exact .inl h
 ·refine .inr ⟨g,h1,h2,h3,h4,fun j hj=>?_⟩
  rw [hb.cell (p:=⟨g,j,none⟩) (Nat.lt_of_lt_of_le h3 hE),hb.frozen (p:=⟨g,j,none⟩) (Nat.lt_of_lt_of_le h3 hE)]
  exact h5 j hj
end
structure KX (B E g0:Nat) (w0 u:World) (V:List NV):Prop where
 bel:Below B w0 u
 chg:Chg w0 u fun k=>B≤k∧k < E
 bB:B≤g0
 bE:g0 < E
 c0:∀(i:Nat) (_:i < V.length),(∃v,u.cell? ⟨g0,i*6,none⟩=some v)∧u.frozen? ⟨g0,i*6,none⟩=false
 c1:∀(i:Nat) (h:i < V.length),u.cell? ⟨g0,i*6+1,none⟩=some (.slice V[i].A1 V[i].n1 V[i].c1)
 c3:∀(i:Nat) (h:i < V.length),u.cell? ⟨g0,i*6+3,none⟩=some (.slice V[i].A3 V[i].n3 V[i].c3)
 r1:∀(i:Nat) (h:i < V.length),Rw B E g0 u V[i].A1 (V[i].n1*2)
 r3:∀(i:Nat) (h:i < V.length),Rw B E g0 u V[i].A3 (V[i].n3*1)
section
variable {B E g0:Nat} {w0 u u':World} {V:List NV}
theorem Chg.cell {w w':World} {S:Nat→Prop} (h:Chg w w' S) {g:Nat} (hS:S g) (j:Nat) (v:Value):Chg w (w'.setCell ⟨g,j,none⟩ v) S :=
 ⟨h.os,h.tape,h.output,by simp;exact h.size,fun k hk hn=>by rw [Below.heap_setCell _ _ _ _ (fun e=>hn (by rw [e];exact hS))];exact h.block k hk hn⟩
theorem KX.set (h:KX B E g0 w0 u V) {g:Nat} (hB:B≤g) (hE:g < E) (hg:g≠g0) (j:Nat) (v:Value):KX B E g0 w0 (u.setCell ⟨g,j,none⟩ v) V :=
 ⟨h.bel.setCell (p:=⟨g,j,none⟩) hB v,Chg.cell h.chg ⟨hB,hE⟩ j v,h.bB,h.bE,fun i hi=>by rw [World.cell?_setCell_far _ _ _ _ hg,World.frozen?_setCell];exact h.c0 i hi,fun i hi=>by rw [World.cell?_setCell_far _ _ _ _ hg];exact h.c1 i hi,
  fun i hi=>by rw [World.cell?_setCell_far _ _ _ _ hg];exact h.c3 i hi,fun i hi=>(h.r1 i hi).set _ _,fun i hi=>(h.r3 i hi).set _ _⟩
theorem KX.kind (h:KX B E g0 w0 u V) (k:Nat) (v:Value):KX B E g0 w0 (u.setCell ⟨g0,k*6,none⟩ v) V :=
 ⟨h.bel.setCell (p:=⟨g0,k*6,none⟩) h.bB v,Chg.cell h.chg ⟨h.bB,h.bE⟩ _ v,h.bB,h.bE,fun i hi=>by
   obtain ⟨⟨x,hx⟩,hf⟩:=h.c0 i hi
   exact ⟨cell?_setCell_some hx,by rw [World.frozen?_setCell];exact hf⟩,
  fun i hi=>by rw [World.cell?_setCell_other (h:=fun e=>by injection e;omega)];exact h.c1 i hi,fun i hi=>by rw [World.cell?_setCell_other (h:=fun e=>by injection e;omega)];exact h.c3 i hi,fun i hi=>(h.r1 i hi).set _ _,fun i hi=>(h.r3 i hi).set _ _⟩
end
theorem Got.chg {w w':World} {B n c D:Nat} {A:Option Addr} {V:List NV} {l:List Nd} (h:Got w B A n c V l) (hc:Chg w w' fun k=>D≤k∧k < B):Got w' B A n c V l:=by
 have hk:∀{e:TypeId} {size m:Nat} {v:Value} {xs:List Value},w.ownsRow B e size v m xs→w'.ownsRow B e size v m xs:=fun ho=>own_keep ho hc fun k e hs=>by have:=(ho.lt k e).1;omega
 exact ⟨hk h.own,Rd.of_own (hk h.own),h.len,h.len2,h.sm,h.nc,fun i h1 h2=>by
  have q:=h.held i h1 h2
  exact ⟨q.k,q.mn,q.mx,q.nm,q.short,q.sm,q.l1,q.l2,q.l3,hk q.o1,hk q.o2,hk q.o3⟩⟩
theorem Got.wipe {w:World} {B n c:Nat} {A:Option Addr} {V:List NV} {l:List Nd} (h:Got w B A n c V l) (hn:0 < n):∃g0,A=some ⟨g0,0,none⟩∧KX B w.heap.size g0 w w V∧∀(i:Nat) (h1:i < V.length),V[i].n1≤8388608∧V[i].n3≤1073741824:=by
 rcases h.own.2 with ⟨h1,h2⟩ | ⟨g,cap,cur,hv,h1,h2,h3,_⟩
 ·omega
 ·injection hv with hA hx hc
  subst hA
  have hlt:g < w.heap.size:=(Array.getElem?_eq_some_iff.1 h2).1
  have hL:∀i,i < V.length→i < l.length:=fun i hi=>by rw [h.len2,←h.len];exact hi
  have hrow:∀(i:Nat) (hi:i < V.length) (j:Nat),j < 6→w.cell? ⟨g,i*6+j,none⟩=V[i].row[j]?∧w.frozen? ⟨g,i*6+j,none⟩=false:=fun i hi j hj=>by
   have hx:i*6+j < n*6:=by have:=h.len;omega
   exact ⟨by rw [h.own.cellAt (i*6+j) hx,nvs_get V hi j hj],h.own.frozenAt _⟩
  refine ⟨g,rfl,⟨Below.refl _ _,Chg.refl _ _,h1,hlt,fun i hi=>?_,fun i hi=>(hrow i hi 1 (by decide)).1,fun i hi=>(hrow i hi 3 (by decide)).1,fun i hi=>?_,fun i hi=>?_⟩,fun i hi=>?_⟩
  ·have:=hrow i hi 0 (by decide)
   exact ⟨⟨_,this.1⟩,this.2⟩
  ·have q:=h.held i hi (hL i hi)
   have o:=q.o1
   rw [q.l1] at o
   exact Rw.of o (Nat.le_refl _) (fun _=>⟨cur,(0,0),h2⟩) (by decide)
  ·have q:=h.held i hi (hL i hi)
   have o:=q.o3
   rw [q.l3] at o
   exact Rw.of o (Nat.le_refl _) (fun _=>⟨cur,(0,0),h2⟩) (by decide)
  ·have q:=(h.held i hi (hL i hi)).has
   exact ⟨q.s.sm,q.o.sm⟩
theorem KX.next {B E g0:Nat} {w0 u u':World} {V:List NV} (h:KX B E g0 w0 u V) (hE:E≤u.heap.size) (hb:Below u.heap.size u u'):KX B E g0 u' u' V:=by
 have hg:g0 < u.heap.size:=Nat.lt_of_lt_of_le h.bE hE
 refine ⟨Below.refl _ _,Chg.refl _ _,h.bB,h.bE,fun i hi=>?_,fun i hi=>?_,fun i hi=>?_,fun i hi=>(h.r1 i hi).below hb hE,fun i hi=>(h.r3 i hi).below hb hE⟩
 ·rw [hb.cell (p:=⟨g0,i*6,none⟩) hg,hb.frozen (p:=⟨g0,i*6,none⟩) hg];exact h.c0 i hi
 ·rw [hb.cell (p:=⟨g0,i*6+1,none⟩) hg];exact h.c1 i hi
 ·rw [hb.cell (p:=⟨g0,i*6+3,none⟩) hg];exact h.c3 i hi
structure KY (B E:Nat) (w0 u:World) (A:Option Addr) (n:Nat) (V:List NV):Prop where
 bel:Below B w0 u
 chg:Chg w0 u fun k=>B≤k∧k < E
 at_:0 < n→∃g0,A=some ⟨g0,0,none⟩∧KX B E g0 w0 u V
theorem KY.start {w w':World} {B n c:Nat} {A:Option Addr} {V:List NV} {l:List Nd} (h:Got w B A n c V l) (hb:Below w.heap.size w w'):KY B w.heap.size w' w' A n V :=
 ⟨Below.refl _ _,Chg.refl _ _,fun hn=>by
  obtain ⟨g0,h1,h2,_⟩:=h.wipe hn
  exact ⟨g0,h1,h2.next (Nat.le_refl _) hb⟩⟩
theorem Got.small {w:World} {B n c:Nat} {A:Option Addr} {V:List NV} {l:List Nd} (h:Got w B A n c V l) (i:Nat) (h1:i < V.length):V[i].n1≤8388608∧V[i].n3≤1073741824:=by
 have q:=(h.held i h1 (by rw [h.len2,←h.len];exact h1)).has
 exact ⟨q.s.sm,q.o.sm⟩
end Go.Proofs.YtkgeiokckfpjlaaGreatDoor.Syn
