/-
  Texts of stage 7, part 9.
-/
import Derived.Test.YtdngaddggcmjgaaDoorProg
import Derived.Shelf.SlSortCmp.Insertion1
import Derived.Lib.Hide
import Derived.Test.YtdngaddggcmjgaaDoorW8
namespace Go.Proofs.YtdngaddggcmjgaaDoor.Norm
open Go.Shelf Go.RowKit Go.Sort
abbrev e32:Int→Value:=Value.int .i32
theorem one32:OneCell e32:=fun _=>rfl
set_option maxHeartbeats 4000000 in
set_option maxRecDepth 100000 in
theorem swapRange_any (blk off cap a b n N:Nat) (d0 d:Array Int) (w0 w:World) (fv:Value) (R:Row1 e32 w0 blk off d0) (hs:d0.size=N) (hN:d.size=N) (S:SW e32 w0 blk off d w)
  (hab:a+n≤b) (hb:b+n≤N) (hsz:N < 4611686018427387904) :
  Calls Tryd.prog 103 #[.slice (some ⟨blk,off,none⟩) N cap,.int .i64 a,.int .i64 b,.int .i64 n,fv] w fun e w'=>e=.returned (.tuple #[])∧∃d',Swr a b n d d'∧SW e32 w0 blk off d' w':=by
 have mixed:Tryd.prog.follows .mixedOrders=true:=by kernel_rfl
 have HS:=Lib.hid S
 have HN:=Lib.hid hN
 have HR:=Lib.hid R
 have H0:=Lib.hid hs
 clear S hN R hs
 go_enter Tryd.func103,Tryd.ntmps103
 go_wp2
 go_loopg [10] n (fun g1 vi wr=>∃(i:Nat) (dk:Array Int),vi=.int .i64 i∧i≤n∧n - i≤g1∧Hid (Swr a b i d dk)∧Hid (SW e32 w0 blk off dk wr))
 case atStart=>exact ⟨0,d,rfl,Nat.zero_le _,Nat.le_refl _,Lib.hid (Swr.zero a b d),HS⟩
 case round =>
  clear HS
  obtain ⟨i,dk,rfl,hin,hg,HW,HK⟩:=hrel
  by_cases hlt:i < n
  ·have hltz:(i:Int) < (n:Int):=by omega
   have hsk:dk.size=N:=HW.out.size.trans HN.out
   obtain ⟨p,hp⟩:∃p,p=a+i:=⟨_,rfl⟩
   obtain ⟨q,hq⟩:∃q,q=b+i:=⟨_,rfl⟩
   have ea:((a:Int)+(i:Int)).toNat=p:=by omega
   have eb:((b:Int)+(i:Int)).toNat=q:=by omega
   have ra:IntKind.i64.wrap ((a:Int)+(i:Int))=(a:Int)+(i:Int):=by rw [IntKind.wrap_i64];omega
   have rb:IntKind.i64.wrap ((b:Int)+(i:Int))=(b:Int)+(i:Int):=by rw [IntKind.wrap_i64];omega
   have pa:(0:Int)≤(a:Int)+(i:Int):=by omega
   have pb:(0:Int)≤(b:Int)+(i:Int):=by omega
   have ba:(a:Int)+(i:Int) < (N:Int):=by omega
   have bb:(b:Int)+(i:Int) < (N:Int):=by omega
   obtain ⟨x,hx⟩:∃x,x=dk[p]!:=⟨_,rfl⟩
   obtain ⟨y,hy⟩:∃y,y=dk[q]!:=⟨_,rfl⟩
   have hp1:p < dk.size:=by omega
   have hq1:q < dk.size:=by omega
   have h0:dk.size=d0.size:=hsk.trans H0.out.symm
   have S3:=Lib.hid (HK.out.swapped HR.out p q hp1 hq1)
   have c1:=HK.out.c1 HR.out h0 p hp1
   have c2:=HK.out.c1 HR.out h0 q hq1
   have f1:=HK.out.f1 HR.out h0 p hp1
   have f2:=HK.out.f1 HR.out h0 q hq1
   have HWS:=Lib.hid (HW.out.step (by omega) (by rw [HN.out];omega))
   rw [←hp,←hq] at HWS
   rw [←hx,←hy] at S3
   rw [←hx] at c1
   rw [←hy] at c2
   obtain ⟨u,c3⟩:=HK.out.c2 HR.out h0 p q hp1 hq1 (e32 y)
   clear hx hy hp hq hp1 hq1 h0 HK hsk
   go_wp2_with fail
   go_big_region_o
   clear c1 c2 c3 f1 f2 ea eb
   generalize ((wr.setCell ⟨blk,off+p,none⟩ (e32 y)).setCell ⟨blk,off+q,none⟩ (e32 x)).drew=w3 at S3 ⊢
   go_wp2
   go_roundg (n - (i+1))
   case measure=>omega
   case rel=>exact ⟨i+1,swp dk p q,by go_num,by omega,Nat.le_refl _,HWS,S3⟩
  ·have hltz:¬(i:Int) < (n:Int):=by omega
   obtain rfl:i=n:=by omega
   go_wp2
   go_end0
   exact ⟨rfl,dk,HW.out,HK.out⟩
end Go.Proofs.YtdngaddggcmjgaaDoor.Norm
namespace Go.Proofs.YtdngaddggcmjgaaDoor.Norm
open Go.Shelf Go.RowKit Go.Sort
set_option maxHeartbeats 4000000 in
set_option maxRecDepth 100000 in
theorem rotate_any (blk off cap a m b N:Nat) (d0 d:Array Int) (w0 w:World) (fv:Value) (R:Row1 e32 w0 blk off d0) (hs:d0.size=N) (hN:d.size=N) (S:SW e32 w0 blk off d w)
  (ham:a < m) (hmb:m < b) (hb:b≤N) (hsz:N < 4611686018427387904) :
  Calls Tryd.prog 101 #[.slice (some ⟨blk,off,none⟩) N cap,.int .i64 a,.int .i64 m,.int .i64 b,fv] w fun e w'=>e=.returned (.tuple #[])∧∃d',Rot a m b d d'∧SW e32 w0 blk off d' w':=by
 have HS:=Lib.hid S
 have HN:=Lib.hid hN
 have HR:=Lib.hid R
 have H0:=Lib.hid hs
 clear S hN R hs
 have s1:(m:Int) - (a:Int)=((m - a:Nat):Int):=by omega
 have s2:(b:Int) - (m:Int)=((b - m:Nat):Int):=by omega
 have hc:∀(x y k:Nat) (dk:Array Int) (W:World),Hid (dk.size=N)→Hid (SW e32 w0 blk off dk W)→x+k≤y→y+k≤N→Calls Tryd.prog 103 #[.slice (some ⟨blk,off,none⟩) N cap,.int .i64 x,.int .i64 y,.int .i64 k,fv] W fun e w'=>e=.returned (.tuple #[])∧∃d',Swr x y k dk d'∧SW e32 w0 blk off d' w' :=
  fun x y k dk W h1 h2 h3 h4=>swapRange_any blk off cap x y k N d0 dk w0 W fv HR.out H0.out h1.out h2.out h3 h4 hsz
 have HC:=Lib.hid hc
 clear hc
 go_enter Tryd.func101,Tryd.ntmps101
 go_wp2
 go_loopg [10,11] (b - a) (fun g1 vi vj wr=>∃(i j:Nat) (dk:Array Int),vi=.int .i64 i∧vj=.int .i64 j∧0 < i∧0 < j∧a+i≤m∧m+j≤b∧i+j≤g1∧i≤m∧Hid (dk.size=N)∧Hid (∀d',Rot (m - i) m (m+j) dk d'→Rot a m b d d')∧Hid (SW e32 w0 blk off dk wr))
 case atStart=>exact ⟨m - a,b - m,d,by rw [←s1],by rw [←s2],by omega,by omega,by omega,by omega,by omega,by omega,HN,Lib.hid (fun d' h=>by rw [show m - (m - a)=a from by omega,show m+(b - m)=b from by omega] at h;exact h),HS⟩
 case round =>
  clear HS
  obtain ⟨i,j,dk,rfl,rfl,hi0,hj0,ha,hb',hg,him,HZ,HL,HK⟩:=hrel
  have m1:(m:Int) - (i:Int)=((m - i:Nat):Int):=by omega
  by_cases hij:i=j
  ·subst hij
   have hne:((i:Int) != (i:Int))=false:=by simp
   go_wp2_with fail
   refine (HC.out _ _ _ dk _ HZ HK (by omega) (by omega)).mono ?_
   rintro e w2 ⟨rfl,d2,hw,hk⟩
   go_wp2
   go_end0
   exact ⟨rfl,d2,HL.out _ (Rot.even him hw),hk⟩
  ·have hne:((i:Int) != (j:Int))=true:=by simp;omega
   have HIJ:=Lib.hid hij
   clear hij
   by_cases hlt:j < i
   ·have hltz:(j:Int) < (i:Int):=by omega
    have m2:(i:Int) - (j:Int)=((i - j:Nat):Int):=by omega
    go_wp2_with fail
    refine (HC.out _ _ _ dk _ HZ HK (by omega) (by omega)).mono ?_
    rintro e w2 ⟨rfl,d2,hw,hk⟩
    have HK2:=Lib.hid hk
    have HZ2:=Lib.hid (hw.size.trans HZ.out)
    have HL2:=Lib.hid (fun d' h=>HL.out d' (Rot.left him hlt hw h))
    clear hk hw HK HZ HL
    go_wp2_with fail
    go_roundg (i+j - j)
    case measure=>omega
    case rel=>exact ⟨i - j,j,d2,rfl,rfl,by omega,by omega,by omega,by omega,by omega,by omega,HZ2,HL2,HK2⟩
   ·have hltz:¬(j:Int) < (i:Int):=by omega
    have hlt':i < j:=by have:=HIJ.out;omega
    have m2:(j:Int) - (i:Int)=((j - i:Nat):Int):=by omega
    have m3:(m:Int)+(j:Int) - (i:Int)=((m+j - i:Nat):Int):=by omega
    go_wp2_with fail
    refine (HC.out _ _ _ dk _ HZ HK (by omega) (by omega)).mono ?_
    rintro e w2 ⟨rfl,d2,hw,hk⟩
    have HK2:=Lib.hid hk
    have HZ2:=Lib.hid (hw.size.trans HZ.out)
    have HL2:=Lib.hid (fun d' h=>HL.out d' (Rot.right him hlt' hw h))
    clear hk hw HK HZ HL
    go_wp2_with fail
    go_roundg (i+j - i)
    case measure=>omega
    case rel=>exact ⟨i,j - i,d2,rfl,rfl,by omega,by omega,by omega,by omega,by omega,by omega,HZ2,HL2,HK2⟩
end Go.Proofs.YtdngaddggcmjgaaDoor.Norm
namespace Go.Proofs.YtdngaddggcmjgaaDoor.Norm
open Go.Shelf Go.RowKit Go.Sort
structure Told (key:Int→Int) (cf:Int→Int→Int) (g blk off N:Nat) (d0:Array Int) (w0:World):Prop where
 row:Row1 e32 w0 blk off d0
 size:d0.size=N
 small:N < 4611686018427387904
 cmp:CmpLays1 Tryd.prog g #[] e32 cf blk off N w0
 lt:∀x y,cf x y < 0↔key x < key y
 enters:∀args w,(callFunc g args).run Tryd.prog w=.ok (.enter g args) w
def MgEnd (key:Int→Int) (blk off a b:Nat) (d:Array Int) (w0:World) (e:Ending) (w':World):Prop:=e=.returned (.tuple #[])∧∃d',Mg key a b d d'∧SW e32 w0 blk off d' w'
set_option maxHeartbeats 8000000 in
set_option maxRecDepth 100000 in
theorem sym_first (key:Int→Int) (cf:Int→Int→Int) (g blk off cap a m b N:Nat) (d0 d:Array Int) (w0 w:World) (T:Told key cf g blk off N d0 w0) (hN:d.size=N) (S:SW e32 w0 blk off d w)
  (hm:m=a+1) (hab:m < b) (hb:b≤N) (hs:Srt key (a+1) b d) :
  Calls Tryd.prog 95 #[.slice (some ⟨blk,off,none⟩) N cap,.int .i64 a,.int .i64 m,.int .i64 b,.func (.func g) #[] #[]] w (MgEnd key blk off a b d w0):=by
 have mixed:Tryd.prog.follows .mixedOrders=true:=by kernel_rfl
 have hsz:=T.small
 have eg:=T.enters
 have HT:=Lib.hid T
 have HS:=Lib.hid S
 have HN:=Lib.hid hN
 have HO:=Lib.hid hs
 have hma:((m:Int) - (a:Int) == 1)=true:=by simp;omega
 have HM:=Lib.hid hm
 have ham:a < m:=by omega
 clear T S hN hs hm
 go_enter Tryd.func95,Tryd.ntmps95
 go_wp2_with fail
 go_loopg [10,11,12] (b - a) (fun g1 vi vj vh wr=>∃(i j:Nat),vi=.int .i64 i∧vj=.int .i64 j∧m≤i∧i≤j∧j≤b∧j - i≤g1∧Hid (i=a+1∨key d[i - 1]! < key d[a]!)∧Hid (j=b∨key d[a]!≤key d[j]!)∧Hid (SW e32 w0 blk off d wr))
 case atStart=>exact ⟨m,b,rfl,rfl,by omega,by omega,by omega,by omega,Lib.hid (.inl HM.out),Lib.hid (.inl rfl),HS⟩
 case round =>
  clear HS
  obtain ⟨i,j,rfl,rfl,h1,h2,h3,hg,HI,HJ,HK⟩:=hrel
  by_cases hlt:i < j
  ·have hltz:(i:Int) < (j:Int):=by omega
   obtain ⟨h,hh⟩:∃h:Nat,h=(i+j) / 2:=⟨_,rfl⟩
   have hz:((i:Int)+(j:Int)) / 2=(h:Int):=by omega
   have h4:i≤h:=by omega
   have h5:h < j:=by omega
   have hh2:(h:Int) < (N:Int):=by omega
   have ha2:(a:Int) < (N:Int):=by omega
   clear hh
   obtain ⟨x,hx⟩:∃x,x=d[h]!:=⟨_,rfl⟩
   obtain ⟨y,hy⟩:∃y,y=d[a]!:=⟨_,rfl⟩
   have l1:=HK.out.cl HT.out.row (by rw [HN.out,HT.out.size]) h (by rw [HN.out];omega)
   have l2:=HK.out.cl HT.out.row (by rw [HN.out,HT.out.size]) a (by rw [HN.out];omega)
   have hc:=HK.out.cmp HT.out.cmp HN.out x y
   have HV:=Lib.hid (HT.out.lt x y)
   rw [←hx] at l1
   rw [←hy] at l2
   have HX:=Lib.hid hx
   have HY:=Lib.hid hy
   clear hx hy
   by_cases hv:cf x y < 0
   ·have hd:decide (cf x y < 0)=true:=decide_eq_true hv
    have HI2:=Lib.hid (show h+1=a+1∨key d[h+1 - 1]! < key d[a]! from .inr (by rw [Nat.add_sub_cancel,←HX.out,←HY.out];exact HV.out.1 hv))
    go_wp2_with fail
    go_quiet_grown (first | (go_at_fn g;refine Calls.grown_of (hc _ _)))
    have HK2:=Lib.hid (HK.out.grown nq osq)
    clear l1 l2 hc HK
    generalize grow (wr.drewN nq) osq=w2 at HK2 ⊢
    clear nq osq
    go_wp2_with fail
    go_roundg (j - (h+1))
    case measure=>omega
    case rel=>exact ⟨h+1,j,by go_num,rfl,by omega,by omega,by omega,Nat.le_refl _,HI2,HJ,HK2⟩
   ·have hd:decide (cf x y < 0)=false:=decide_eq_false hv
    have HJ2:=Lib.hid (show h=b∨key d[a]!≤key d[h]! from .inr (by rw [←HX.out,←HY.out];exact Int.not_lt.1 fun h=>hv (HV.out.2 h)))
    go_wp2_with fail
    go_quiet_grown (first | (go_at_fn g;refine Calls.grown_of (hc _ _)))
    have HK2:=Lib.hid (HK.out.grown nq osq)
    clear l1 l2 hc HK
    generalize grow (wr.drewN nq) osq=w2 at HK2 ⊢
    clear nq osq
    go_wp2_with fail
    go_roundg (h - i)
    case measure=>omega
    case rel=>exact ⟨i,h,rfl,rfl,by omega,by omega,by omega,Nat.le_refl _,HI,HJ2,HK2⟩
  ·have hltz:¬(i:Int) < (j:Int):=by omega
   obtain rfl:i=j:=by omega
   have hi1:(i:Int) - 1=((i - 1:Nat):Int):=by omega
   have HF:=Lib.hid (fun d' h=>mg_first (d':=d') HO.out (by have:=HM.out;omega) h3 HI.out HJ.out h)
   clear HI HJ hlt
   go_wp2_with fail
   go_loopg [13] (i - 1) (fun g2 vk wx=>∃(k:Nat) (dk:Array Int),vk=.int .i64 k∧a≤k∧k≤i - 1∧i - 1 - k≤g2∧Hid (Rot a (a+1) (k+1) d dk)∧Hid (SW e32 w0 blk off dk wx))
   case atStart=>exact ⟨a,d,rfl,Nat.le_refl _,by have:=HM.out;omega,by have:=HM.out;omega,Lib.hid (Rot.refl_right a (a+1) d),HK⟩
   case round =>
    clear HK
    obtain ⟨k,dk,rfl,k1,k2,kg,HW,HX⟩:=hrel
    by_cases hlt:k < i - 1
    ·have hltz:(k:Int) < ((i - 1:Nat):Int):=by omega
     obtain ⟨q,hq⟩:∃q,q=k+1:=⟨_,rfl⟩
     have eb:((k:Int)+1).toNat=q:=by omega
     have pb:(0:Int)≤(k:Int)+1:=by omega
     have bb:(k:Int)+1 < (N:Int):=by omega
     have ba:(k:Int) < (N:Int):=by omega
     obtain ⟨x,hx⟩:∃x,x=dk[k]!:=⟨_,rfl⟩
     obtain ⟨y,hy⟩:∃y,y=dk[q]!:=⟨_,rfl⟩
     have hsk:dk.size=N:=HW.out.size.trans HN.out
     have h0:dk.size=d0.size:=hsk.trans HT.out.size.symm
     have hp1:k < dk.size:=by omega
     have hq1:q < dk.size:=by omega
     have S3:=Lib.hid (HX.out.swapped HT.out.row k q hp1 hq1)
     have c1:=HX.out.c1 HT.out.row h0 k hp1
     have c2:=HX.out.c1 HT.out.row h0 q hq1
     have f1:=HX.out.f1 HT.out.row h0 k hp1
     have f2:=HX.out.f1 HT.out.row h0 q hq1
     have HWS:=Lib.hid (HW.out.up k1 (by rw [HN.out];omega))
     rw [←hq] at HWS
     rw [←hx,←hy] at S3
     rw [←hx] at c1
     rw [←hy] at c2
     obtain ⟨u,c3⟩:=HX.out.c2 HT.out.row h0 k q hp1 hq1 (e32 y)
     clear hx hy hq hp1 hq1 h0 HX hsk
     go_wp2_with fail
     go_big_region_o
     clear c1 c2 c3 f1 f2 eb
     generalize ((wr.setCell ⟨blk,off+k,none⟩ (e32 y)).setCell ⟨blk,off+q,none⟩ (e32 x)).drew=w3 at S3 ⊢
     go_wp2_with fail
     go_roundg (i - 1 - (k+1))
     case measure=>omega
     case rel=>exact ⟨k+1,swp dk k q,by go_num,by omega,by omega,Nat.le_refl _,HWS,S3⟩
    ·have hltz:¬(k:Int) < ((i - 1:Nat):Int):=by omega
     have hki:k+1=i:=by omega
     rw [hki] at HW
     have HE:=Lib.hid (HF.out _ HW.out)
     clear HF HW hki
     go_wp2_with fail
     go_end0
     exact ⟨rfl,dk,HE.out,HX.out⟩
end Go.Proofs.YtdngaddggcmjgaaDoor.Norm
namespace Go.Proofs.YtdngaddggcmjgaaDoor.Norm
open Go.Shelf Go.RowKit Go.Sort
set_option maxHeartbeats 8000000 in
set_option maxRecDepth 100000 in
theorem sym_last (key:Int→Int) (cf:Int→Int→Int) (g blk off cap a m b N:Nat) (d0 d:Array Int) (w0 w:World) (T:Told key cf g blk off N d0 w0) (hN:d.size=N) (S:SW e32 w0 blk off d w)
  (ham1:a+1 < m) (hm:b=m+1) (hb:b≤N) (hs:Srt key a m d) :
  Calls Tryd.prog 95 #[.slice (some ⟨blk,off,none⟩) N cap,.int .i64 a,.int .i64 m,.int .i64 b,.func (.func g) #[] #[]] w (MgEnd key blk off a b d w0):=by
 have mixed:Tryd.prog.follows .mixedOrders=true:=by kernel_rfl
 have hsz:=T.small
 have eg:=T.enters
 have HT:=Lib.hid T
 have HS:=Lib.hid S
 have HN:=Lib.hid hN
 have HO:=Lib.hid hs
 have hma:((m:Int) - (a:Int) == 1)=false:=by simp;omega
 have hmb:((b:Int) - (m:Int) == 1)=true:=by simp;omega
 have ham:a < m:=by omega
 have hmbl:m < b:=by omega
 have HM:=Lib.hid hm
 clear T S hN hs hm
 go_enter Tryd.func95,Tryd.ntmps95
 go_wp2_with fail
 go_loopg [14,15,16] (m - a) (fun g1 vi vj vh wr=>∃(i j:Nat),vi=.int .i64 i∧vj=.int .i64 j∧a≤i∧i≤j∧j≤m∧j - i≤g1∧Hid (i=a∨key d[i - 1]!≤key d[m]!)∧Hid (j=m∨key d[m]! < key d[j]!)∧Hid (SW e32 w0 blk off d wr))
 case atStart=>exact ⟨a,m,rfl,rfl,by omega,by omega,by omega,by omega,Lib.hid (.inl rfl),Lib.hid (.inl rfl),HS⟩
 case round =>
  clear HS
  obtain ⟨i,j,rfl,rfl,h1,h2,h3,hg,HI,HJ,HK⟩:=hrel
  by_cases hlt:i < j
  ·have hltz:(i:Int) < (j:Int):=by omega
   obtain ⟨h,hh⟩:∃h:Nat,h=(i+j) / 2:=⟨_,rfl⟩
   have hz:((i:Int)+(j:Int)) / 2=(h:Int):=by omega
   have h4:i≤h:=by omega
   have h5:h < j:=by omega
   have hh2:(h:Int) < (N:Int):=by omega
   have hm2:(m:Int) < (N:Int):=by omega
   clear hh
   obtain ⟨x,hx⟩:∃x,x=d[m]!:=⟨_,rfl⟩
   obtain ⟨y,hy⟩:∃y,y=d[h]!:=⟨_,rfl⟩
   have l1:=HK.out.cl HT.out.row (by rw [HN.out,HT.out.size]) m (by rw [HN.out];omega)
   have l2:=HK.out.cl HT.out.row (by rw [HN.out,HT.out.size]) h (by rw [HN.out];omega)
   have hc:=HK.out.cmp HT.out.cmp HN.out x y
   have HV:=Lib.hid (HT.out.lt x y)
   rw [←hx] at l1
   rw [←hy] at l2
   have HX:=Lib.hid hx
   have HY:=Lib.hid hy
   clear hx hy
   by_cases hv:cf x y < 0
   ·have hd:decide (cf x y < 0)=true:=decide_eq_true hv
    have HJ2:=Lib.hid (show h=m∨key d[m]! < key d[h]! from .inr (by rw [←HX.out,←HY.out];exact HV.out.1 hv))
    go_wp2_with fail
    go_quiet_grown (first | (go_at_fn g;refine Calls.grown_of (hc _ _)))
    have HK2:=Lib.hid (HK.out.grown nq osq)
    clear l1 l2 hc HK
    generalize grow (wr.drewN nq) osq=w2 at HK2 ⊢
    clear nq osq
    go_wp2_with fail
    go_roundg (h - i)
    case measure=>omega
    case rel=>exact ⟨i,h,rfl,rfl,by omega,by omega,by omega,Nat.le_refl _,HI,HJ2,HK2⟩
   ·have hd:decide (cf x y < 0)=false:=decide_eq_false hv
    have HI2:=Lib.hid (show h+1=a∨key d[h+1 - 1]!≤key d[m]! from .inr (by rw [Nat.add_sub_cancel,←HX.out,←HY.out];exact Int.not_lt.1 fun h=>hv (HV.out.2 h)))
    go_wp2_with fail
    go_quiet_grown (first | (go_at_fn g;refine Calls.grown_of (hc _ _)))
    have HK2:=Lib.hid (HK.out.grown nq osq)
    clear l1 l2 hc HK
    generalize grow (wr.drewN nq) osq=w2 at HK2 ⊢
    clear nq osq
    go_wp2_with fail
    go_roundg (j - (h+1))
    case measure=>omega
    case rel=>exact ⟨h+1,j,by go_num,rfl,by omega,by omega,by omega,Nat.le_refl _,HI2,HJ,HK2⟩
  ·have hltz:¬(i:Int) < (j:Int):=by omega
   obtain rfl:i=j:=by omega
   have HF:=Lib.hid (fun d' h=>mg_last (d':=d') HO.out h1 h3 HI.out HJ.out h)
   clear HI HJ hlt
   go_wp2_with fail
   go_loopg [17] (m - i) (fun g2 vk wx=>∃(k:Nat) (dk:Array Int),vk=.int .i64 k∧i≤k∧k≤m∧k - i≤g2∧Hid (Rot k m (m+1) d dk)∧Hid (SW e32 w0 blk off dk wx))
   case atStart=>exact ⟨m,d,rfl,h3,Nat.le_refl _,by omega,Lib.hid (Rot.refl_left m (m+1) d (by omega)),HK⟩
   case round =>
    clear HK
    obtain ⟨k,dk,rfl,k1,k2,kg,HW,HX⟩:=hrel
    by_cases hlt:i < k
    ·have hltz:(i:Int) < (k:Int):=by omega
     obtain ⟨q,rfl⟩:∃q,k=q+1:=⟨k - 1,by omega⟩
     obtain ⟨p,hp⟩:∃p,p=q+1:=⟨_,rfl⟩
     have ec:((q+1:Nat):Int)=(p:Int):=by omega
     have eb:(p:Int) - 1=(q:Int):=by omega
     have ba:(p:Int) < (N:Int):=by omega
     have bb:(q:Int) < (N:Int):=by omega
     have ltp:(i:Int) < (p:Int):=by omega
     have p1:1≤(p:Int):=by omega
     have p2:p≤m:=by omega
     obtain ⟨x,hx⟩:∃x,x=dk[p]!:=⟨_,rfl⟩
     obtain ⟨y,hy⟩:∃y,y=dk[q]!:=⟨_,rfl⟩
     have hsk:dk.size=N:=HW.out.size.trans HN.out
     have h0:dk.size=d0.size:=hsk.trans HT.out.size.symm
     have hp1:p < dk.size:=by omega
     have hq1:q < dk.size:=by omega
     have S3:=Lib.hid (HX.out.swapped HT.out.row p q hp1 hq1)
     have c1:=HX.out.c1 HT.out.row h0 p hp1
     have c2:=HX.out.c1 HT.out.row h0 q hq1
     have f1:=HX.out.f1 HT.out.row h0 p hp1
     have f2:=HX.out.f1 HT.out.row h0 q hq1
     have HWS:=Lib.hid (HW.out.down (by omega) (by rw [HN.out];omega))
     rw [←hp] at HWS
     rw [←hx,←hy] at S3
     rw [←hx] at c1
     rw [←hy] at c2
     obtain ⟨u,c3⟩:=HX.out.c2 HT.out.row h0 p q hp1 hq1 (e32 y)
     rw [ec]
     clear hx hy hp ec hp1 hq1 h0 HX hsk HW hltz
     go_wp2_with fail
     go_big_region_o
     clear c1 c2 c3 f1 f2
     generalize ((wr.setCell ⟨blk,off+p,none⟩ (e32 y)).setCell ⟨blk,off+q,none⟩ (e32 x)).drew=w3 at S3 ⊢
     go_wp2_with fail
     go_roundg (q - i)
     case measure=>omega
     case rel=>exact ⟨q,swp dk p q,rfl,by omega,by omega,Nat.le_refl _,HWS,S3⟩
    ·have hltz:¬(i:Int) < (k:Int):=by omega
     have hki:k=i:=by omega
     rw [hki] at HW
     have HE:=Lib.hid (HF.out _ HW.out)
     clear HF HW hki
     go_wp2_with fail
     go_end0
     exact ⟨rfl,dk,by rw [HM.out];exact HE.out,HX.out⟩
end Go.Proofs.YtdngaddggcmjgaaDoor.Norm
namespace Go.Proofs.YtdngaddggcmjgaaDoor.Norm
open Go.Shelf Go.RowKit Go.Sort
def SymAll (key:Int→Int) (g blk off cap N:Nat) (w0:World) (sz:Nat):Prop :=
 ∀(a m b:Nat) (d:Array Int) (w:World),b - a≤sz→d.size=N→SW e32 w0 blk off d w→a < m→m < b→b≤N→Srt key a m d→Srt key m b d →
  Calls Tryd.prog 95 #[.slice (some ⟨blk,off,none⟩) N cap,.int .i64 a,.int .i64 m,.int .i64 b,.func (.func g) #[] #[]] w (MgEnd key blk off a b d w0)
set_option maxHeartbeats 16000000 in
set_option maxRecDepth 100000 in
theorem sym_ahead (key:Int→Int) (cf:Int→Int→Int) (g blk off cap a m b N sz mid:Nat) (d0 d:Array Int) (w0 w:World) (T:Told key cf g blk off N d0 w0) (IH:SymAll key g blk off cap N w0 sz) (hb1:b - a≤sz+1) (hN:d.size=N) (S:SW e32 w0 blk off d w)
  (ham1:a+1 < m) (hmb1:m+1 < b) (hb:b≤N) (hA:Srt key a m d) (hB:Srt key m b d) (hmid:mid=(a+b) / 2) (hmm:mid < m) :
  Calls Tryd.prog 95 #[.slice (some ⟨blk,off,none⟩) N cap,.int .i64 a,.int .i64 m,.int .i64 b,.func (.func g) #[] #[]] w (MgEnd key blk off a b d w0):=by
 have mixed:Tryd.prog.follows .mixedOrders=true:=by kernel_rfl
 have hsz:=T.small
 have eg:=T.enters
 have HT:=Lib.hid T
 have HS:=Lib.hid S
 have HN:=Lib.hid hN
 have HA:=Lib.hid hA
 have HB:=Lib.hid hB
 have HIH:=Lib.hid IH
 have HMID:=Lib.hid hmid
 have hma:((m:Int) - (a:Int) == 1)=false:=by simp;omega
 have hmb:((b:Int) - (m:Int) == 1)=false:=by simp;omega
 have ham:a < m:=by omega
 have hmbl:m < b:=by omega
 have hz:((a:Int)+(b:Int)) / 2=(mid:Int):=by omega
 have hmid1:a < mid:=by omega
 have hmid2:mid < b:=by omega
 have hgt:(mid:Int) < (m:Int):=by omega
 obtain ⟨n,hn⟩:∃n,n=mid+m:=⟨_,rfl⟩
 have hnz:(mid:Int)+(m:Int)=(n:Int):=by omega
 have hn1:1≤n:=by omega
 have hn2:n≤2*N:=by omega
 obtain ⟨p,hp⟩:∃p,p=n - 1:=⟨_,rfl⟩
 have hpz:(n:Int) - 1=(p:Int):=by omega
 obtain ⟨lo,hlo⟩:∃lo,lo=n - b:=⟨_,rfl⟩
 have HL:=Lib.hid (show a≤lo∧lo≤mid∧mid≤m∧mid≤mid∧n≤b+lo∧(lo=a∨n=b+lo)∧(mid=m∨n=m+mid)∧n=mid+m∧p+1=n by omega)
 have hloz:(n:Int) - (b:Int)=(lo:Int):=by omega
 have hle:=HL.out.2.1
 have hpN:p≤2*N:=by omega
 clear T S hN hA hB IH hmid hmm hn hp hlo
 go_enter Tryd.func95,Tryd.ntmps95
 go_wp2_with fail
 go_loopg [20,21,23] (mid - lo) (fun g1 vi vj vc wr=>∃(i j:Nat),vi=.int .i64 i∧vj=.int .i64 j∧lo≤i∧i≤j∧j≤mid∧j - i≤g1∧Hid (i=lo∨key d[i - 1]!≤key d[n - i]!)∧Hid (j=mid∨key d[p - j]! < key d[j]!)∧Hid (SW e32 w0 blk off d wr))
 case atStart=>exact ⟨lo,mid,rfl,rfl,Nat.le_refl _,by omega,Nat.le_refl _,Nat.le_refl _,Lib.hid (.inl rfl),Lib.hid (.inl rfl),HS⟩
 case round =>
  clear HS
  obtain ⟨i,j,rfl,rfl,h1,h2,h3,hg,HI,HJ,HK⟩:=hrel
  by_cases hlt:i < j
  ·have hltz:(i:Int) < (j:Int):=by omega
   obtain ⟨c,hc0⟩:∃c:Nat,c=(i+j) / 2:=⟨_,rfl⟩
   have hcz:((i:Int)+(j:Int)) / 2=(c:Int):=by omega
   have h4:i≤c:=by omega
   have h5:c < j:=by omega
   obtain ⟨q,hq⟩:∃q,q=p - c:=⟨_,rfl⟩
   have HQ:=Lib.hid (show q=n - (c+1)∧q=p - c by have:=HL.out;omega)
   have hqz:(p:Int) - (c:Int)=(q:Int):=by have:=HL.out;omega
   have hq2:(q:Int) < (N:Int):=by have:=HL.out;omega
   have hc2:(c:Int) < (N:Int):=by have:=HL.out;omega
   have hqw:IntKind.i64.wrap (q:Int)=(q:Int):=by rw [IntKind.wrap_i64];omega
   clear hc0 hq
   obtain ⟨x,hx⟩:∃x,x=d[q]!:=⟨_,rfl⟩
   obtain ⟨y,hy⟩:∃y,y=d[c]!:=⟨_,rfl⟩
   have l1:=HK.out.cl HT.out.row (by rw [HN.out,HT.out.size]) q (by rw [HN.out];omega)
   have l2:=HK.out.cl HT.out.row (by rw [HN.out,HT.out.size]) c (by rw [HN.out];omega)
   have hc:=HK.out.cmp HT.out.cmp HN.out x y
   have HV:=Lib.hid (HT.out.lt x y)
   rw [←hx] at l1
   rw [←hy] at l2
   have HX:=Lib.hid hx
   have HY:=Lib.hid hy
   clear hx hy
   by_cases hv:cf x y < 0
   ·have hd:decide (cf x y < 0)=true:=decide_eq_true hv
    have HJ2:=Lib.hid (show c=mid∨key d[p - c]! < key d[c]! from .inr (by rw [←HQ.out.2,←HX.out,←HY.out];exact HV.out.1 hv))
    go_wp2_with fail
    go_quiet_grown (first | (go_at_fn g;refine Calls.grown_of (hc _ _)))
    have HK2:=Lib.hid (HK.out.grown nq osq)
    clear l1 l2 hc HK
    generalize grow (wr.drewN nq) osq=w2 at HK2 ⊢
    clear nq osq
    go_wp2_with fail
    go_roundg (c - i)
    case measure=>omega
    case rel=>exact ⟨i,c,rfl,rfl,by omega,by omega,by omega,Nat.le_refl _,HI,HJ2,HK2⟩
   ·have hd:decide (cf x y < 0)=false:=decide_eq_false hv
    have HI2:=Lib.hid (show c+1=lo∨key d[c+1 - 1]!≤key d[n - (c+1)]! from .inr (by rw [Nat.add_sub_cancel,←HQ.out.1,←HX.out,←HY.out];exact Int.not_lt.1 fun h=>hv (HV.out.2 h)))
    go_wp2_with fail
    go_quiet_grown (first | (go_at_fn g;refine Calls.grown_of (hc _ _)))
    have HK2:=Lib.hid (HK.out.grown nq osq)
    clear l1 l2 hc HK
    generalize grow (wr.drewN nq) osq=w2 at HK2 ⊢
    clear nq osq
    go_wp2_with fail
    go_roundg (j - (c+1))
    case measure=>omega
    case rel=>exact ⟨c+1,j,by go_num,rfl,by omega,by omega,by omega,Nat.le_refl _,HI2,HJ,HK2⟩
  ·have hltz:¬(i:Int) < (j:Int):=by omega
   obtain rfl:i=j:=by omega
   obtain ⟨e,he⟩:∃e,e=n - i:=⟨_,rfl⟩
   have hez:(n:Int) - (i:Int)=(e:Int):=by have:=HL.out;omega
   have HE:=Lib.hid (show e+i=mid+m∧a≤i∧i≤m∧i≤mid∧e≤b∧m≤e by have:=HL.out;omega)
   have HLL:=Lib.hid (show i=a∨e=b∨key d[i - 1]!≤key d[e]! by
    have:=HL.out
    rcases HI.out with h | h
    ·omega
    ·rw [he];exact .inr (.inr h))
   have HRR:=Lib.hid (show i=m∨e=m∨key d[e - 1]! < key d[i]! by
    have:=HL.out
    rcases HJ.out with h | h
    ·omega
    ·rw [show e - 1=p - i from by omega];exact .inr (.inr h))
   have HF:=Lib.hid (fun d1 (r:Rot i m e d d1)=>mg_parts HA.out HB.out ham hmbl HMID.out HE.out.1 HE.out.2.1 HE.out.2.2.1 HE.out.2.2.2.1 HE.out.2.2.2.2.1 HE.out.2.2.2.2.2 HLL.out HRR.out r)
   have heN:e≤N:=by have:=HE.out;omega
   have hie:m≤e:=HE.out.2.2.2.2.2
   have him:i≤m:=HE.out.2.2.1
   have himid:i≤mid:=HE.out.2.2.2.1
   have hai:a≤i:=HE.out.2.1
   clear HI HJ hlt HLL HRR hltz he hg h1 h2 h3
   have hem:e+i=mid+m:=HE.out.1
   have heb:e≤b:=HE.out.2.2.2.2.1
   clear HE HL HA HB HMID
   by_cases h1:i < m∧m < e
   ·have q1:(i:Int) < (m:Int):=by omega
    have q2:(m:Int) < (e:Int):=by omega
    have HC:=Lib.hid h1
    clear h1
    go_wp2_with fail
    refine (rotate_any blk off cap i m e N d0 d w0 _ (.func (.func g) #[] #[]) HT.out.row HT.out.size HN.out HK.out HC.out.1 HC.out.2 heN hsz).mono ?_
    rintro e1 w1 ⟨rfl,d1,hrot,hk⟩
    have HP:=Lib.hid (HF.out d1 hrot)
    have HZ:=Lib.hid (hrot.size.trans HN.out)
    have HK1:=Lib.hid hk
    clear hrot hk HK HC q1 q2 HF
    rename Hid (SW e32 w0 blk off d1 w1)=>HK
    by_cases h2:a < i∧i < mid
    ·have q3:(a:Int) < (i:Int):=by omega
     have q4:(i:Int) < (mid:Int):=by omega
     have HC:=Lib.hid h2
     clear h2
     go_wp2_with fail
     refine (HIH.out a i mid d1 _ (by omega) HZ.out HK.out HC.out.1 HC.out.2 (by omega) HP.out.1 HP.out.2.1).mono ?_
     rintro e2 w2 ⟨rfl,d2,hmg,hk⟩
     have HP3:=Lib.hid (HP.out.2.2 d2 hmg)
     have HZ2:=Lib.hid (hmg.1.size.trans HZ.out)
     have HK2:=Lib.hid hk
     clear hmg hk HP HK HZ HC q3 q4
     rename Hid (d2.size=N)=>HZ
     rename Hid (SW e32 w0 blk off d2 w2)=>HK
     by_cases h3:mid < e∧e < b
     ·have q5:(mid:Int) < (e:Int):=by omega
      have q6:(e:Int) < (b:Int):=by omega
      have HC:=Lib.hid h3
      clear h3
      go_wp2_with fail
      all_goals
       refine (HIH.out mid e b d2 _ (by omega) HZ.out HK.out HC.out.1 HC.out.2 hb HP3.out.1 HP3.out.2.1).mono ?_
       rintro e3 w3 ⟨rfl,d3,hmg,hk⟩
       have HEND:=Lib.hid (HP3.out.2.2 d3 hmg)
       have HK3:=Lib.hid hk
       clear hmg hk
       go_wp2_with fail
       go_end0
       exact ⟨rfl,d3,HEND.out,HK3.out⟩
     ·have HEND:=Lib.hid (HP3.out.2.2 d2 (mg_none HP3.out.1 HP3.out.2.1 (by omega)))
      have hq:¬((mid:Int) < (e:Int))∨((mid:Int) < (e:Int))∧¬((e:Int) < (b:Int)):=by omega
      clear h3
      rcases hq with q5 | ⟨q5,q6⟩
      ·go_wp2_with fail
       all_goals go_end0
       all_goals exact ⟨rfl,d2,HEND.out,HK.out⟩
      ·go_wp2_with fail
       all_goals go_end0
       all_goals exact ⟨rfl,d2,HEND.out,HK.out⟩
    ·have HP3:=Lib.hid (HP.out.2.2 d1 (mg_none HP.out.1 HP.out.2.1 (by omega)))
     have hq:¬((a:Int) < (i:Int))∨((a:Int) < (i:Int))∧¬((i:Int) < (mid:Int)):=by omega
     clear h2 HP
     rcases hq with q3 | ⟨q3,q4⟩
     ·skip
      by_cases h3:mid < e∧e < b
      ·have q5:(mid:Int) < (e:Int):=by omega
       have q6:(e:Int) < (b:Int):=by omega
       have HC:=Lib.hid h3
       clear h3
       go_wp2_with fail
       all_goals
        refine (HIH.out mid e b d1 _ (by omega) HZ.out HK.out HC.out.1 HC.out.2 hb HP3.out.1 HP3.out.2.1).mono ?_
        rintro e3 w3 ⟨rfl,d3,hmg,hk⟩
        have HEND:=Lib.hid (HP3.out.2.2 d3 hmg)
        have HK3:=Lib.hid hk
        clear hmg hk
        go_wp2_with fail
        go_end0
        exact ⟨rfl,d3,HEND.out,HK3.out⟩
      ·have HEND:=Lib.hid (HP3.out.2.2 d1 (mg_none HP3.out.1 HP3.out.2.1 (by omega)))
       have hq:¬((mid:Int) < (e:Int))∨((mid:Int) < (e:Int))∧¬((e:Int) < (b:Int)):=by omega
       clear h3
       rcases hq with q5 | ⟨q5,q6⟩
       ·go_wp2_with fail
        all_goals go_end0
        all_goals exact ⟨rfl,d1,HEND.out,HK.out⟩
       ·go_wp2_with fail
        all_goals go_end0
        all_goals exact ⟨rfl,d1,HEND.out,HK.out⟩
     ·skip
      by_cases h3:mid < e∧e < b
      ·have q5:(mid:Int) < (e:Int):=by omega
       have q6:(e:Int) < (b:Int):=by omega
       have HC:=Lib.hid h3
       clear h3
       go_wp2_with fail
       all_goals
        refine (HIH.out mid e b d1 _ (by omega) HZ.out HK.out HC.out.1 HC.out.2 hb HP3.out.1 HP3.out.2.1).mono ?_
        rintro e3 w3 ⟨rfl,d3,hmg,hk⟩
        have HEND:=Lib.hid (HP3.out.2.2 d3 hmg)
        have HK3:=Lib.hid hk
        clear hmg hk
        go_wp2_with fail
        go_end0
        exact ⟨rfl,d3,HEND.out,HK3.out⟩
      ·have HEND:=Lib.hid (HP3.out.2.2 d1 (mg_none HP3.out.1 HP3.out.2.1 (by omega)))
       have hq:¬((mid:Int) < (e:Int))∨((mid:Int) < (e:Int))∧¬((e:Int) < (b:Int)):=by omega
       clear h3
       rcases hq with q5 | ⟨q5,q6⟩
       ·go_wp2_with fail
        all_goals go_end0
        all_goals exact ⟨rfl,d1,HEND.out,HK.out⟩
       ·go_wp2_with fail
        all_goals go_end0
        all_goals exact ⟨rfl,d1,HEND.out,HK.out⟩
   ·have HP:=Lib.hid (HF.out d (by
     by_cases h:i < m
     ·obtain rfl:e=m:=by omega
      exact Rot.refl_right _ _ _
     ·obtain rfl:i=m:=by omega
      exact Rot.refl_left _ _ _ hie))
    have HZ:=Lib.hid HN.out
    have hq:¬((i:Int) < (m:Int))∨((i:Int) < (m:Int))∧¬((m:Int) < (e:Int)):=by omega
    clear h1 HF
    rcases hq with q1 | ⟨q1,q2⟩
    ·skip
     by_cases h2:a < i∧i < mid
     ·have q3:(a:Int) < (i:Int):=by omega
      have q4:(i:Int) < (mid:Int):=by omega
      have HC:=Lib.hid h2
      clear h2
      go_wp2_with fail
      refine (HIH.out a i mid d _ (by omega) HZ.out HK.out HC.out.1 HC.out.2 (by omega) HP.out.1 HP.out.2.1).mono ?_
      rintro e2 w2 ⟨rfl,d2,hmg,hk⟩
      have HP3:=Lib.hid (HP.out.2.2 d2 hmg)
      have HZ2:=Lib.hid (hmg.1.size.trans HZ.out)
      have HK2:=Lib.hid hk
      clear hmg hk HP HK HZ HC q3 q4
      rename Hid (d2.size=N)=>HZ
      rename Hid (SW e32 w0 blk off d2 w2)=>HK
      by_cases h3:mid < e∧e < b
      ·have q5:(mid:Int) < (e:Int):=by omega
       have q6:(e:Int) < (b:Int):=by omega
       have HC:=Lib.hid h3
       clear h3
       go_wp2_with fail
       all_goals
        refine (HIH.out mid e b d2 _ (by omega) HZ.out HK.out HC.out.1 HC.out.2 hb HP3.out.1 HP3.out.2.1).mono ?_
        rintro e3 w3 ⟨rfl,d3,hmg,hk⟩
        have HEND:=Lib.hid (HP3.out.2.2 d3 hmg)
        have HK3:=Lib.hid hk
        clear hmg hk
        go_wp2_with fail
        go_end0
        exact ⟨rfl,d3,HEND.out,HK3.out⟩
      ·have HEND:=Lib.hid (HP3.out.2.2 d2 (mg_none HP3.out.1 HP3.out.2.1 (by omega)))
       have hq:¬((mid:Int) < (e:Int))∨((mid:Int) < (e:Int))∧¬((e:Int) < (b:Int)):=by omega
       clear h3
       rcases hq with q5 | ⟨q5,q6⟩
       ·go_wp2_with fail
        all_goals go_end0
        all_goals exact ⟨rfl,d2,HEND.out,HK.out⟩
       ·go_wp2_with fail
        all_goals go_end0
        all_goals exact ⟨rfl,d2,HEND.out,HK.out⟩
     ·have HP3:=Lib.hid (HP.out.2.2 d (mg_none HP.out.1 HP.out.2.1 (by omega)))
      have hq:¬((a:Int) < (i:Int))∨((a:Int) < (i:Int))∧¬((i:Int) < (mid:Int)):=by omega
      clear h2 HP
      rcases hq with q3 | ⟨q3,q4⟩
      ·skip
       by_cases h3:mid < e∧e < b
       ·have q5:(mid:Int) < (e:Int):=by omega
        have q6:(e:Int) < (b:Int):=by omega
        have HC:=Lib.hid h3
        clear h3
        go_wp2_with fail
        all_goals
         refine (HIH.out mid e b d _ (by omega) HZ.out HK.out HC.out.1 HC.out.2 hb HP3.out.1 HP3.out.2.1).mono ?_
         rintro e3 w3 ⟨rfl,d3,hmg,hk⟩
         have HEND:=Lib.hid (HP3.out.2.2 d3 hmg)
         have HK3:=Lib.hid hk
         clear hmg hk
         go_wp2_with fail
         go_end0
         exact ⟨rfl,d3,HEND.out,HK3.out⟩
       ·have HEND:=Lib.hid (HP3.out.2.2 d (mg_none HP3.out.1 HP3.out.2.1 (by omega)))
        have hq:¬((mid:Int) < (e:Int))∨((mid:Int) < (e:Int))∧¬((e:Int) < (b:Int)):=by omega
        clear h3
        rcases hq with q5 | ⟨q5,q6⟩
        ·go_wp2_with fail
         all_goals go_end0
         all_goals exact ⟨rfl,d,HEND.out,HK.out⟩
        ·go_wp2_with fail
         all_goals go_end0
         all_goals exact ⟨rfl,d,HEND.out,HK.out⟩
      ·skip
       by_cases h3:mid < e∧e < b
       ·have q5:(mid:Int) < (e:Int):=by omega
        have q6:(e:Int) < (b:Int):=by omega
        have HC:=Lib.hid h3
        clear h3
        go_wp2_with fail
        all_goals
         refine (HIH.out mid e b d _ (by omega) HZ.out HK.out HC.out.1 HC.out.2 hb HP3.out.1 HP3.out.2.1).mono ?_
         rintro e3 w3 ⟨rfl,d3,hmg,hk⟩
         have HEND:=Lib.hid (HP3.out.2.2 d3 hmg)
         have HK3:=Lib.hid hk
         clear hmg hk
         go_wp2_with fail
         go_end0
         exact ⟨rfl,d3,HEND.out,HK3.out⟩
       ·have HEND:=Lib.hid (HP3.out.2.2 d (mg_none HP3.out.1 HP3.out.2.1 (by omega)))
        have hq:¬((mid:Int) < (e:Int))∨((mid:Int) < (e:Int))∧¬((e:Int) < (b:Int)):=by omega
        clear h3
        rcases hq with q5 | ⟨q5,q6⟩
        ·go_wp2_with fail
         all_goals go_end0
         all_goals exact ⟨rfl,d,HEND.out,HK.out⟩
        ·go_wp2_with fail
         all_goals go_end0
         all_goals exact ⟨rfl,d,HEND.out,HK.out⟩
    ·skip
     by_cases h2:a < i∧i < mid
     ·have q3:(a:Int) < (i:Int):=by omega
      have q4:(i:Int) < (mid:Int):=by omega
      have HC:=Lib.hid h2
      clear h2
      go_wp2_with fail
      refine (HIH.out a i mid d _ (by omega) HZ.out HK.out HC.out.1 HC.out.2 (by omega) HP.out.1 HP.out.2.1).mono ?_
      rintro e2 w2 ⟨rfl,d2,hmg,hk⟩
      have HP3:=Lib.hid (HP.out.2.2 d2 hmg)
      have HZ2:=Lib.hid (hmg.1.size.trans HZ.out)
      have HK2:=Lib.hid hk
      clear hmg hk HP HK HZ HC q3 q4
      rename Hid (d2.size=N)=>HZ
      rename Hid (SW e32 w0 blk off d2 w2)=>HK
      by_cases h3:mid < e∧e < b
      ·have q5:(mid:Int) < (e:Int):=by omega
       have q6:(e:Int) < (b:Int):=by omega
       have HC:=Lib.hid h3
       clear h3
       go_wp2_with fail
       all_goals
        refine (HIH.out mid e b d2 _ (by omega) HZ.out HK.out HC.out.1 HC.out.2 hb HP3.out.1 HP3.out.2.1).mono ?_
        rintro e3 w3 ⟨rfl,d3,hmg,hk⟩
        have HEND:=Lib.hid (HP3.out.2.2 d3 hmg)
        have HK3:=Lib.hid hk
        clear hmg hk
        go_wp2_with fail
        go_end0
        exact ⟨rfl,d3,HEND.out,HK3.out⟩
      ·have HEND:=Lib.hid (HP3.out.2.2 d2 (mg_none HP3.out.1 HP3.out.2.1 (by omega)))
       have hq:¬((mid:Int) < (e:Int))∨((mid:Int) < (e:Int))∧¬((e:Int) < (b:Int)):=by omega
       clear h3
       rcases hq with q5 | ⟨q5,q6⟩
       ·go_wp2_with fail
        all_goals go_end0
        all_goals exact ⟨rfl,d2,HEND.out,HK.out⟩
       ·go_wp2_with fail
        all_goals go_end0
        all_goals exact ⟨rfl,d2,HEND.out,HK.out⟩
     ·have HP3:=Lib.hid (HP.out.2.2 d (mg_none HP.out.1 HP.out.2.1 (by omega)))
      have hq:¬((a:Int) < (i:Int))∨((a:Int) < (i:Int))∧¬((i:Int) < (mid:Int)):=by omega
      clear h2 HP
      rcases hq with q3 | ⟨q3,q4⟩
      ·skip
       by_cases h3:mid < e∧e < b
       ·have q5:(mid:Int) < (e:Int):=by omega
        have q6:(e:Int) < (b:Int):=by omega
        have HC:=Lib.hid h3
        clear h3
        go_wp2_with fail
        all_goals
         refine (HIH.out mid e b d _ (by omega) HZ.out HK.out HC.out.1 HC.out.2 hb HP3.out.1 HP3.out.2.1).mono ?_
         rintro e3 w3 ⟨rfl,d3,hmg,hk⟩
         have HEND:=Lib.hid (HP3.out.2.2 d3 hmg)
         have HK3:=Lib.hid hk
         clear hmg hk
         go_wp2_with fail
         go_end0
         exact ⟨rfl,d3,HEND.out,HK3.out⟩
       ·have HEND:=Lib.hid (HP3.out.2.2 d (mg_none HP3.out.1 HP3.out.2.1 (by omega)))
        have hq:¬((mid:Int) < (e:Int))∨((mid:Int) < (e:Int))∧¬((e:Int) < (b:Int)):=by omega
        clear h3
        rcases hq with q5 | ⟨q5,q6⟩
        ·go_wp2_with fail
         all_goals go_end0
         all_goals exact ⟨rfl,d,HEND.out,HK.out⟩
        ·go_wp2_with fail
         all_goals go_end0
         all_goals exact ⟨rfl,d,HEND.out,HK.out⟩
      ·skip
       by_cases h3:mid < e∧e < b
       ·have q5:(mid:Int) < (e:Int):=by omega
        have q6:(e:Int) < (b:Int):=by omega
        have HC:=Lib.hid h3
        clear h3
        go_wp2_with fail
        all_goals
         refine (HIH.out mid e b d _ (by omega) HZ.out HK.out HC.out.1 HC.out.2 hb HP3.out.1 HP3.out.2.1).mono ?_
         rintro e3 w3 ⟨rfl,d3,hmg,hk⟩
         have HEND:=Lib.hid (HP3.out.2.2 d3 hmg)
         have HK3:=Lib.hid hk
         clear hmg hk
         go_wp2_with fail
         go_end0
         exact ⟨rfl,d3,HEND.out,HK3.out⟩
       ·have HEND:=Lib.hid (HP3.out.2.2 d (mg_none HP3.out.1 HP3.out.2.1 (by omega)))
        have hq:¬((mid:Int) < (e:Int))∨((mid:Int) < (e:Int))∧¬((e:Int) < (b:Int)):=by omega
        clear h3
        rcases hq with q5 | ⟨q5,q6⟩
        ·go_wp2_with fail
         all_goals go_end0
         all_goals exact ⟨rfl,d,HEND.out,HK.out⟩
        ·go_wp2_with fail
         all_goals go_end0
         all_goals exact ⟨rfl,d,HEND.out,HK.out⟩
set_option maxHeartbeats 16000000 in
set_option maxRecDepth 100000 in
theorem sym_behind (key:Int→Int) (cf:Int→Int→Int) (g blk off cap a m b N sz mid:Nat) (d0 d:Array Int) (w0 w:World) (T:Told key cf g blk off N d0 w0) (IH:SymAll key g blk off cap N w0 sz) (hb1:b - a≤sz+1) (hN:d.size=N) (S:SW e32 w0 blk off d w)
  (ham1:a+1 < m) (hmb1:m+1 < b) (hb:b≤N) (hA:Srt key a m d) (hB:Srt key m b d) (hmid:mid=(a+b) / 2) (hmm:m≤mid) :
  Calls Tryd.prog 95 #[.slice (some ⟨blk,off,none⟩) N cap,.int .i64 a,.int .i64 m,.int .i64 b,.func (.func g) #[] #[]] w (MgEnd key blk off a b d w0):=by
 have mixed:Tryd.prog.follows .mixedOrders=true:=by kernel_rfl
 have hsz:=T.small
 have eg:=T.enters
 have HT:=Lib.hid T
 have HS:=Lib.hid S
 have HN:=Lib.hid hN
 have HA:=Lib.hid hA
 have HB:=Lib.hid hB
 have HIH:=Lib.hid IH
 have HMID:=Lib.hid hmid
 have hma:((m:Int) - (a:Int) == 1)=false:=by simp;omega
 have hmb:((b:Int) - (m:Int) == 1)=false:=by simp;omega
 have ham:a < m:=by omega
 have hmbl:m < b:=by omega
 have hz:((a:Int)+(b:Int)) / 2=(mid:Int):=by omega
 have hmid1:a < mid:=by omega
 have hmid2:mid < b:=by omega
 have hgt:¬(mid:Int) < (m:Int):=by omega
 obtain ⟨n,hn⟩:∃n,n=mid+m:=⟨_,rfl⟩
 have hnz:(mid:Int)+(m:Int)=(n:Int):=by omega
 have hn1:1≤n:=by omega
 have hn2:n≤2*N:=by omega
 obtain ⟨p,hp⟩:∃p,p=n - 1:=⟨_,rfl⟩
 have hpz:(n:Int) - 1=(p:Int):=by omega
 skip
 have HL:=Lib.hid (show a≤a∧a≤m∧m≤m∧m≤mid∧n≤b+a∧(a=a∨n=b+a)∧(m=m∨n=m+m)∧n=mid+m∧p+1=n by omega)
 skip
 have hle:=HL.out.2.1
 have hpN:p≤2*N:=by omega
 clear T S hN hA hB IH hmid hmm hn hp 
 go_enter Tryd.func95,Tryd.ntmps95
 go_wp2_with fail
 go_loopg [20,21,23] (m - a) (fun g1 vi vj vc wr=>∃(i j:Nat),vi=.int .i64 i∧vj=.int .i64 j∧a≤i∧i≤j∧j≤m∧j - i≤g1∧Hid (i=a∨key d[i - 1]!≤key d[n - i]!)∧Hid (j=m∨key d[p - j]! < key d[j]!)∧Hid (SW e32 w0 blk off d wr))
 case atStart=>exact ⟨a,m,rfl,rfl,Nat.le_refl _,by omega,Nat.le_refl _,Nat.le_refl _,Lib.hid (.inl rfl),Lib.hid (.inl rfl),HS⟩
 case round =>
  clear HS
  obtain ⟨i,j,rfl,rfl,h1,h2,h3,hg,HI,HJ,HK⟩:=hrel
  by_cases hlt:i < j
  ·have hltz:(i:Int) < (j:Int):=by omega
   obtain ⟨c,hc0⟩:∃c:Nat,c=(i+j) / 2:=⟨_,rfl⟩
   have hcz:((i:Int)+(j:Int)) / 2=(c:Int):=by omega
   have h4:i≤c:=by omega
   have h5:c < j:=by omega
   obtain ⟨q,hq⟩:∃q,q=p - c:=⟨_,rfl⟩
   have HQ:=Lib.hid (show q=n - (c+1)∧q=p - c by have:=HL.out;omega)
   have hqz:(p:Int) - (c:Int)=(q:Int):=by have:=HL.out;omega
   have hq2:(q:Int) < (N:Int):=by have:=HL.out;omega
   have hc2:(c:Int) < (N:Int):=by have:=HL.out;omega
   have hqw:IntKind.i64.wrap (q:Int)=(q:Int):=by rw [IntKind.wrap_i64];omega
   clear hc0 hq
   obtain ⟨x,hx⟩:∃x,x=d[q]!:=⟨_,rfl⟩
   obtain ⟨y,hy⟩:∃y,y=d[c]!:=⟨_,rfl⟩
   have l1:=HK.out.cl HT.out.row (by rw [HN.out,HT.out.size]) q (by rw [HN.out];omega)
   have l2:=HK.out.cl HT.out.row (by rw [HN.out,HT.out.size]) c (by rw [HN.out];omega)
   have hc:=HK.out.cmp HT.out.cmp HN.out x y
   have HV:=Lib.hid (HT.out.lt x y)
   rw [←hx] at l1
   rw [←hy] at l2
   have HX:=Lib.hid hx
   have HY:=Lib.hid hy
   clear hx hy
   by_cases hv:cf x y < 0
   ·have hd:decide (cf x y < 0)=true:=decide_eq_true hv
    have HJ2:=Lib.hid (show c=m∨key d[p - c]! < key d[c]! from .inr (by rw [←HQ.out.2,←HX.out,←HY.out];exact HV.out.1 hv))
    go_wp2_with fail
    go_quiet_grown (first | (go_at_fn g;refine Calls.grown_of (hc _ _)))
    have HK2:=Lib.hid (HK.out.grown nq osq)
    clear l1 l2 hc HK
    generalize grow (wr.drewN nq) osq=w2 at HK2 ⊢
    clear nq osq
    go_wp2_with fail
    go_roundg (c - i)
    case measure=>omega
    case rel=>exact ⟨i,c,rfl,rfl,by omega,by omega,by omega,Nat.le_refl _,HI,HJ2,HK2⟩
   ·have hd:decide (cf x y < 0)=false:=decide_eq_false hv
    have HI2:=Lib.hid (show c+1=a∨key d[c+1 - 1]!≤key d[n - (c+1)]! from .inr (by rw [Nat.add_sub_cancel,←HQ.out.1,←HX.out,←HY.out];exact Int.not_lt.1 fun h=>hv (HV.out.2 h)))
    go_wp2_with fail
    go_quiet_grown (first | (go_at_fn g;refine Calls.grown_of (hc _ _)))
    have HK2:=Lib.hid (HK.out.grown nq osq)
    clear l1 l2 hc HK
    generalize grow (wr.drewN nq) osq=w2 at HK2 ⊢
    clear nq osq
    go_wp2_with fail
    go_roundg (j - (c+1))
    case measure=>omega
    case rel=>exact ⟨c+1,j,by go_num,rfl,by omega,by omega,by omega,Nat.le_refl _,HI2,HJ,HK2⟩
  ·have hltz:¬(i:Int) < (j:Int):=by omega
   obtain rfl:i=j:=by omega
   obtain ⟨e,he⟩:∃e,e=n - i:=⟨_,rfl⟩
   have hez:(n:Int) - (i:Int)=(e:Int):=by have:=HL.out;omega
   have HE:=Lib.hid (show e+i=mid+m∧a≤i∧i≤m∧i≤mid∧e≤b∧m≤e by have:=HL.out;omega)
   have HLL:=Lib.hid (show i=a∨e=b∨key d[i - 1]!≤key d[e]! by
    have:=HL.out
    rcases HI.out with h | h
    ·omega
    ·rw [he];exact .inr (.inr h))
   have HRR:=Lib.hid (show i=m∨e=m∨key d[e - 1]! < key d[i]! by
    have:=HL.out
    rcases HJ.out with h | h
    ·omega
    ·rw [show e - 1=p - i from by omega];exact .inr (.inr h))
   have HF:=Lib.hid (fun d1 (r:Rot i m e d d1)=>mg_parts HA.out HB.out ham hmbl HMID.out HE.out.1 HE.out.2.1 HE.out.2.2.1 HE.out.2.2.2.1 HE.out.2.2.2.2.1 HE.out.2.2.2.2.2 HLL.out HRR.out r)
   have heN:e≤N:=by have:=HE.out;omega
   have hie:m≤e:=HE.out.2.2.2.2.2
   have him:i≤m:=HE.out.2.2.1
   have himid:i≤mid:=HE.out.2.2.2.1
   have hai:a≤i:=HE.out.2.1
   clear HI HJ hlt HLL HRR hltz he hg h1 h2 h3
   have hem:e+i=mid+m:=HE.out.1
   have heb:e≤b:=HE.out.2.2.2.2.1
   clear HE HL HA HB HMID
   by_cases h1:i < m∧m < e
   ·have q1:(i:Int) < (m:Int):=by omega
    have q2:(m:Int) < (e:Int):=by omega
    have HC:=Lib.hid h1
    clear h1
    go_wp2_with fail
    refine (rotate_any blk off cap i m e N d0 d w0 _ (.func (.func g) #[] #[]) HT.out.row HT.out.size HN.out HK.out HC.out.1 HC.out.2 heN hsz).mono ?_
    rintro e1 w1 ⟨rfl,d1,hrot,hk⟩
    have HP:=Lib.hid (HF.out d1 hrot)
    have HZ:=Lib.hid (hrot.size.trans HN.out)
    have HK1:=Lib.hid hk
    clear hrot hk HK HC q1 q2 HF
    rename Hid (SW e32 w0 blk off d1 w1)=>HK
    by_cases h2:a < i∧i < mid
    ·have q3:(a:Int) < (i:Int):=by omega
     have q4:(i:Int) < (mid:Int):=by omega
     have HC:=Lib.hid h2
     clear h2
     go_wp2_with fail
     refine (HIH.out a i mid d1 _ (by omega) HZ.out HK.out HC.out.1 HC.out.2 (by omega) HP.out.1 HP.out.2.1).mono ?_
     rintro e2 w2 ⟨rfl,d2,hmg,hk⟩
     have HP3:=Lib.hid (HP.out.2.2 d2 hmg)
     have HZ2:=Lib.hid (hmg.1.size.trans HZ.out)
     have HK2:=Lib.hid hk
     clear hmg hk HP HK HZ HC q3 q4
     rename Hid (d2.size=N)=>HZ
     rename Hid (SW e32 w0 blk off d2 w2)=>HK
     by_cases h3:mid < e∧e < b
     ·have q5:(mid:Int) < (e:Int):=by omega
      have q6:(e:Int) < (b:Int):=by omega
      have HC:=Lib.hid h3
      clear h3
      go_wp2_with fail
      all_goals
       refine (HIH.out mid e b d2 _ (by omega) HZ.out HK.out HC.out.1 HC.out.2 hb HP3.out.1 HP3.out.2.1).mono ?_
       rintro e3 w3 ⟨rfl,d3,hmg,hk⟩
       have HEND:=Lib.hid (HP3.out.2.2 d3 hmg)
       have HK3:=Lib.hid hk
       clear hmg hk
       go_wp2_with fail
       go_end0
       exact ⟨rfl,d3,HEND.out,HK3.out⟩
     ·have HEND:=Lib.hid (HP3.out.2.2 d2 (mg_none HP3.out.1 HP3.out.2.1 (by omega)))
      have hq:¬((mid:Int) < (e:Int))∨((mid:Int) < (e:Int))∧¬((e:Int) < (b:Int)):=by omega
      clear h3
      rcases hq with q5 | ⟨q5,q6⟩
      ·go_wp2_with fail
       all_goals go_end0
       all_goals exact ⟨rfl,d2,HEND.out,HK.out⟩
      ·go_wp2_with fail
       all_goals go_end0
       all_goals exact ⟨rfl,d2,HEND.out,HK.out⟩
    ·have HP3:=Lib.hid (HP.out.2.2 d1 (mg_none HP.out.1 HP.out.2.1 (by omega)))
     have hq:¬((a:Int) < (i:Int))∨((a:Int) < (i:Int))∧¬((i:Int) < (mid:Int)):=by omega
     clear h2 HP
     rcases hq with q3 | ⟨q3,q4⟩
     ·skip
      by_cases h3:mid < e∧e < b
      ·have q5:(mid:Int) < (e:Int):=by omega
       have q6:(e:Int) < (b:Int):=by omega
       have HC:=Lib.hid h3
       clear h3
       go_wp2_with fail
       all_goals
        refine (HIH.out mid e b d1 _ (by omega) HZ.out HK.out HC.out.1 HC.out.2 hb HP3.out.1 HP3.out.2.1).mono ?_
        rintro e3 w3 ⟨rfl,d3,hmg,hk⟩
        have HEND:=Lib.hid (HP3.out.2.2 d3 hmg)
        have HK3:=Lib.hid hk
        clear hmg hk
        go_wp2_with fail
        go_end0
        exact ⟨rfl,d3,HEND.out,HK3.out⟩
      ·have HEND:=Lib.hid (HP3.out.2.2 d1 (mg_none HP3.out.1 HP3.out.2.1 (by omega)))
       have hq:¬((mid:Int) < (e:Int))∨((mid:Int) < (e:Int))∧¬((e:Int) < (b:Int)):=by omega
       clear h3
       rcases hq with q5 | ⟨q5,q6⟩
       ·go_wp2_with fail
        all_goals go_end0
        all_goals exact ⟨rfl,d1,HEND.out,HK.out⟩
       ·go_wp2_with fail
        all_goals go_end0
        all_goals exact ⟨rfl,d1,HEND.out,HK.out⟩
     ·skip
      by_cases h3:mid < e∧e < b
      ·have q5:(mid:Int) < (e:Int):=by omega
       have q6:(e:Int) < (b:Int):=by omega
       have HC:=Lib.hid h3
       clear h3
       go_wp2_with fail
       all_goals
        refine (HIH.out mid e b d1 _ (by omega) HZ.out HK.out HC.out.1 HC.out.2 hb HP3.out.1 HP3.out.2.1).mono ?_
        rintro e3 w3 ⟨rfl,d3,hmg,hk⟩
        have HEND:=Lib.hid (HP3.out.2.2 d3 hmg)
        have HK3:=Lib.hid hk
        clear hmg hk
        go_wp2_with fail
        go_end0
        exact ⟨rfl,d3,HEND.out,HK3.out⟩
      ·have HEND:=Lib.hid (HP3.out.2.2 d1 (mg_none HP3.out.1 HP3.out.2.1 (by omega)))
       have hq:¬((mid:Int) < (e:Int))∨((mid:Int) < (e:Int))∧¬((e:Int) < (b:Int)):=by omega
       clear h3
       rcases hq with q5 | ⟨q5,q6⟩
       ·go_wp2_with fail
        all_goals go_end0
        all_goals exact ⟨rfl,d1,HEND.out,HK.out⟩
       ·go_wp2_with fail
        all_goals go_end0
        all_goals exact ⟨rfl,d1,HEND.out,HK.out⟩
   ·have HP:=Lib.hid (HF.out d (by
     by_cases h:i < m
     ·obtain rfl:e=m:=by omega
      exact Rot.refl_right _ _ _
     ·obtain rfl:i=m:=by omega
      exact Rot.refl_left _ _ _ hie))
    have HZ:=Lib.hid HN.out
    have hq:¬((i:Int) < (m:Int))∨((i:Int) < (m:Int))∧¬((m:Int) < (e:Int)):=by omega
    clear h1 HF
    rcases hq with q1 | ⟨q1,q2⟩
    ·skip
     by_cases h2:a < i∧i < mid
     ·have q3:(a:Int) < (i:Int):=by omega
      have q4:(i:Int) < (mid:Int):=by omega
      have HC:=Lib.hid h2
      clear h2
      go_wp2_with fail
      refine (HIH.out a i mid d _ (by omega) HZ.out HK.out HC.out.1 HC.out.2 (by omega) HP.out.1 HP.out.2.1).mono ?_
      rintro e2 w2 ⟨rfl,d2,hmg,hk⟩
      have HP3:=Lib.hid (HP.out.2.2 d2 hmg)
      have HZ2:=Lib.hid (hmg.1.size.trans HZ.out)
      have HK2:=Lib.hid hk
      clear hmg hk HP HK HZ HC q3 q4
      rename Hid (d2.size=N)=>HZ
      rename Hid (SW e32 w0 blk off d2 w2)=>HK
      by_cases h3:mid < e∧e < b
      ·have q5:(mid:Int) < (e:Int):=by omega
       have q6:(e:Int) < (b:Int):=by omega
       have HC:=Lib.hid h3
       clear h3
       go_wp2_with fail
       all_goals
        refine (HIH.out mid e b d2 _ (by omega) HZ.out HK.out HC.out.1 HC.out.2 hb HP3.out.1 HP3.out.2.1).mono ?_
        rintro e3 w3 ⟨rfl,d3,hmg,hk⟩
        have HEND:=Lib.hid (HP3.out.2.2 d3 hmg)
        have HK3:=Lib.hid hk
        clear hmg hk
        go_wp2_with fail
        go_end0
        exact ⟨rfl,d3,HEND.out,HK3.out⟩
      ·have HEND:=Lib.hid (HP3.out.2.2 d2 (mg_none HP3.out.1 HP3.out.2.1 (by omega)))
       have hq:¬((mid:Int) < (e:Int))∨((mid:Int) < (e:Int))∧¬((e:Int) < (b:Int)):=by omega
       clear h3
       rcases hq with q5 | ⟨q5,q6⟩
       ·go_wp2_with fail
        all_goals go_end0
        all_goals exact ⟨rfl,d2,HEND.out,HK.out⟩
       ·go_wp2_with fail
        all_goals go_end0
        all_goals exact ⟨rfl,d2,HEND.out,HK.out⟩
     ·have HP3:=Lib.hid (HP.out.2.2 d (mg_none HP.out.1 HP.out.2.1 (by omega)))
      have hq:¬((a:Int) < (i:Int))∨((a:Int) < (i:Int))∧¬((i:Int) < (mid:Int)):=by omega
      clear h2 HP
      rcases hq with q3 | ⟨q3,q4⟩
      ·skip
       by_cases h3:mid < e∧e < b
       ·have q5:(mid:Int) < (e:Int):=by omega
        have q6:(e:Int) < (b:Int):=by omega
        have HC:=Lib.hid h3
        clear h3
        go_wp2_with fail
        all_goals
         refine (HIH.out mid e b d _ (by omega) HZ.out HK.out HC.out.1 HC.out.2 hb HP3.out.1 HP3.out.2.1).mono ?_
         rintro e3 w3 ⟨rfl,d3,hmg,hk⟩
         have HEND:=Lib.hid (HP3.out.2.2 d3 hmg)
         have HK3:=Lib.hid hk
         clear hmg hk
         go_wp2_with fail
         go_end0
         exact ⟨rfl,d3,HEND.out,HK3.out⟩
       ·have HEND:=Lib.hid (HP3.out.2.2 d (mg_none HP3.out.1 HP3.out.2.1 (by omega)))
        have hq:¬((mid:Int) < (e:Int))∨((mid:Int) < (e:Int))∧¬((e:Int) < (b:Int)):=by omega
        clear h3
        rcases hq with q5 | ⟨q5,q6⟩
        ·go_wp2_with fail
         all_goals go_end0
         all_goals exact ⟨rfl,d,HEND.out,HK.out⟩
        ·go_wp2_with fail
         all_goals go_end0
         all_goals exact ⟨rfl,d,HEND.out,HK.out⟩
      ·skip
       by_cases h3:mid < e∧e < b
       ·have q5:(mid:Int) < (e:Int):=by omega
        have q6:(e:Int) < (b:Int):=by omega
        have HC:=Lib.hid h3
        clear h3
        go_wp2_with fail
        all_goals
         refine (HIH.out mid e b d _ (by omega) HZ.out HK.out HC.out.1 HC.out.2 hb HP3.out.1 HP3.out.2.1).mono ?_
         rintro e3 w3 ⟨rfl,d3,hmg,hk⟩
         have HEND:=Lib.hid (HP3.out.2.2 d3 hmg)
         have HK3:=Lib.hid hk
         clear hmg hk
         go_wp2_with fail
         go_end0
         exact ⟨rfl,d3,HEND.out,HK3.out⟩
       ·have HEND:=Lib.hid (HP3.out.2.2 d (mg_none HP3.out.1 HP3.out.2.1 (by omega)))
        have hq:¬((mid:Int) < (e:Int))∨((mid:Int) < (e:Int))∧¬((e:Int) < (b:Int)):=by omega
        clear h3
        rcases hq with q5 | ⟨q5,q6⟩
        ·go_wp2_with fail
         all_goals go_end0
         all_goals exact ⟨rfl,d,HEND.out,HK.out⟩
        ·go_wp2_with fail
         all_goals go_end0
         all_goals exact ⟨rfl,d,HEND.out,HK.out⟩
    ·skip
     by_cases h2:a < i∧i < mid
     ·have q3:(a:Int) < (i:Int):=by omega
      have q4:(i:Int) < (mid:Int):=by omega
      have HC:=Lib.hid h2
      clear h2
      go_wp2_with fail
      refine (HIH.out a i mid d _ (by omega) HZ.out HK.out HC.out.1 HC.out.2 (by omega) HP.out.1 HP.out.2.1).mono ?_
      rintro e2 w2 ⟨rfl,d2,hmg,hk⟩
      have HP3:=Lib.hid (HP.out.2.2 d2 hmg)
      have HZ2:=Lib.hid (hmg.1.size.trans HZ.out)
      have HK2:=Lib.hid hk
      clear hmg hk HP HK HZ HC q3 q4
      rename Hid (d2.size=N)=>HZ
      rename Hid (SW e32 w0 blk off d2 w2)=>HK
      by_cases h3:mid < e∧e < b
      ·have q5:(mid:Int) < (e:Int):=by omega
       have q6:(e:Int) < (b:Int):=by omega
       have HC:=Lib.hid h3
       clear h3
       go_wp2_with fail
       all_goals
        refine (HIH.out mid e b d2 _ (by omega) HZ.out HK.out HC.out.1 HC.out.2 hb HP3.out.1 HP3.out.2.1).mono ?_
        rintro e3 w3 ⟨rfl,d3,hmg,hk⟩
        have HEND:=Lib.hid (HP3.out.2.2 d3 hmg)
        have HK3:=Lib.hid hk
        clear hmg hk
        go_wp2_with fail
        go_end0
        exact ⟨rfl,d3,HEND.out,HK3.out⟩
      ·have HEND:=Lib.hid (HP3.out.2.2 d2 (mg_none HP3.out.1 HP3.out.2.1 (by omega)))
       have hq:¬((mid:Int) < (e:Int))∨((mid:Int) < (e:Int))∧¬((e:Int) < (b:Int)):=by omega
       clear h3
       rcases hq with q5 | ⟨q5,q6⟩
       ·go_wp2_with fail
        all_goals go_end0
        all_goals exact ⟨rfl,d2,HEND.out,HK.out⟩
       ·go_wp2_with fail
        all_goals go_end0
        all_goals exact ⟨rfl,d2,HEND.out,HK.out⟩
     ·have HP3:=Lib.hid (HP.out.2.2 d (mg_none HP.out.1 HP.out.2.1 (by omega)))
      have hq:¬((a:Int) < (i:Int))∨((a:Int) < (i:Int))∧¬((i:Int) < (mid:Int)):=by omega
      clear h2 HP
      rcases hq with q3 | ⟨q3,q4⟩
      ·skip
       by_cases h3:mid < e∧e < b
       ·have q5:(mid:Int) < (e:Int):=by omega
        have q6:(e:Int) < (b:Int):=by omega
        have HC:=Lib.hid h3
        clear h3
        go_wp2_with fail
        all_goals
         refine (HIH.out mid e b d _ (by omega) HZ.out HK.out HC.out.1 HC.out.2 hb HP3.out.1 HP3.out.2.1).mono ?_
         rintro e3 w3 ⟨rfl,d3,hmg,hk⟩
         have HEND:=Lib.hid (HP3.out.2.2 d3 hmg)
         have HK3:=Lib.hid hk
         clear hmg hk
         go_wp2_with fail
         go_end0
         exact ⟨rfl,d3,HEND.out,HK3.out⟩
       ·have HEND:=Lib.hid (HP3.out.2.2 d (mg_none HP3.out.1 HP3.out.2.1 (by omega)))
        have hq:¬((mid:Int) < (e:Int))∨((mid:Int) < (e:Int))∧¬((e:Int) < (b:Int)):=by omega
        clear h3
        rcases hq with q5 | ⟨q5,q6⟩
        ·go_wp2_with fail
         all_goals go_end0
         all_goals exact ⟨rfl,d,HEND.out,HK.out⟩
        ·go_wp2_with fail
         all_goals go_end0
         all_goals exact ⟨rfl,d,HEND.out,HK.out⟩
      ·skip
       by_cases h3:mid < e∧e < b
       ·have q5:(mid:Int) < (e:Int):=by omega
        have q6:(e:Int) < (b:Int):=by omega
        have HC:=Lib.hid h3
        clear h3
        go_wp2_with fail
        all_goals
         refine (HIH.out mid e b d _ (by omega) HZ.out HK.out HC.out.1 HC.out.2 hb HP3.out.1 HP3.out.2.1).mono ?_
         rintro e3 w3 ⟨rfl,d3,hmg,hk⟩
         have HEND:=Lib.hid (HP3.out.2.2 d3 hmg)
         have HK3:=Lib.hid hk
         clear hmg hk
         go_wp2_with fail
         go_end0
         exact ⟨rfl,d3,HEND.out,HK3.out⟩
       ·have HEND:=Lib.hid (HP3.out.2.2 d (mg_none HP3.out.1 HP3.out.2.1 (by omega)))
        have hq:¬((mid:Int) < (e:Int))∨((mid:Int) < (e:Int))∧¬((e:Int) < (b:Int)):=by omega
        clear h3
        rcases hq with q5 | ⟨q5,q6⟩
        ·go_wp2_with fail
         all_goals go_end0
         all_goals exact ⟨rfl,d,HEND.out,HK.out⟩
        ·go_wp2_with fail
         all_goals go_end0
         all_goals exact ⟨rfl,d,HEND.out,HK.out⟩
theorem sym_any (key:Int→Int) (cf:Int→Int→Int) (g blk off cap N:Nat) (d0:Array Int) (w0:World) (T:Told key cf g blk off N d0 w0):∀sz,SymAll key g blk off cap N w0 sz:=by
 intro sz
 induction sz with
 | zero=>intro a m b d w h;omega
 | succ sz ih =>
  intro a m b d w hsz hN S ham hmb hb hA hB
  by_cases h1:m=a+1
  ·exact sym_first key cf g blk off cap a m b N d0 d w0 w T hN S h1 hmb hb (by rw [←h1];exact hB)
  ·by_cases h2:b=m+1
   ·exact sym_last key cf g blk off cap a m b N d0 d w0 w T hN S (by omega) h2 hb hA
   ·rcases Nat.lt_or_ge ((a+b) / 2) m with h | h
    ·exact sym_ahead key cf g blk off cap a m b N sz _ d0 d w0 w T ih hsz hN S (by omega) (by omega) hb hA hB rfl h
    ·exact sym_behind key cf g blk off cap a m b N sz _ d0 d w0 w T ih hsz hN S (by omega) (by omega) hb hA hB rfl h
end Go.Proofs.YtdngaddggcmjgaaDoor.Norm
namespace Go.Proofs.YtdngaddggcmjgaaDoor.Norm
open Go.Shelf Go.RowKit Go.Sort
set_option maxHeartbeats 8000000 in
set_option maxRecDepth 100000 in
theorem ins_any (key:Int→Int) (cf:Int→Int→Int) (g blk off cap a b N:Nat) (d0 d:Array Int) (w0 w:World) (T:Told key cf g blk off N d0 w0) (hN:d.size=N) (S:SW e32 w0 blk off d w)
  (hab:a≤b) (hb:b≤N) :
  Calls Tryd.prog 94 #[.slice (some ⟨blk,off,none⟩) N cap,.int .i64 a,.int .i64 b,.func (.func g) #[] #[]] w (MgEnd key blk off a b d w0):=by
 have mixed:Tryd.prog.follows .mixedOrders=true:=by kernel_rfl
 have hsz:=T.small
 have eg:=T.enters
 have HT:=Lib.hid T
 have HS:=Lib.hid S
 have HN:=Lib.hid hN
 clear T S hN
 go_enter Tryd.func94,Tryd.ntmps94
 go_wp2_with fail
 go_loopg [8] (b - a) (fun g1 vi wr=>∃(i:Nat) (dk:Array Int),vi=.int .i64 i∧a+1≤i∧i≤b+1∧b+1 - i≤g1+1∧Hid (dk.size=N)∧Hid (St key a b d dk)∧Hid (Srt key a i dk)∧Hid (SW e32 w0 blk off dk wr))
 case atStart=>exact ⟨a+1,d,by go_num,by omega,by omega,by omega,HN,Lib.hid (St.refl _ _ _),Lib.hid (fun i j h1 h2 h3=>by omega),HS⟩
 case round =>
  clear HS
  obtain ⟨i,dk,rfl,h1,h2,hg,HZ,HD,HO,HK⟩:=hrel
  by_cases hlt:i < b
  ·have hltz:(i:Int) < (b:Int):=by omega
   go_wp2_with fail
   go_loopg [9] i (fun g2 vj wr2=>∃(j:Nat) (dj:Array Int),vj=.int .i64 j∧a≤j∧j≤i∧j≤g2∧Hid (Rot j i (i+1) dk dj)∧Hid (j=i∨key dk[i]! < key dk[j]!)∧Hid (SW e32 w0 blk off dj wr2))
   case atStart=>exact ⟨i,dk,rfl,by omega,Nat.le_refl _,Nat.le_refl _,Lib.hid (Rot.refl_left i (i+1) dk (by omega)),Lib.hid (.inl rfl),HK⟩
   case round =>
    clear HK
    obtain ⟨j,dj,rfl,j1,j2,jg,HR,HC,HX⟩:=hrel
    -- the way out of the inner loop
    have HOUT:=Lib.hid (show (j=a∨key dk[j - 1]!≤key dk[i]!)→Mg key a (i+1) dk dj from fun hl=>mg_last HO.out j1 j2 hl HC.out HR.out)
    have HD2:=Lib.hid (fun (m:Mg key a (i+1) dk dj)=>(HD.out.trans (m.1.mono (Nat.le_refl _) (by omega) (by omega):St key a b dk dj):St key a b d dj))
    have hsk:dj.size=N:=HR.out.size.trans HZ.out
    have HSK:=Lib.hid hsk
    by_cases hja:a < j
    ·obtain ⟨q,rfl⟩:∃q,j=q+1:=⟨j - 1,by omega⟩
     obtain ⟨p,hp⟩:∃p,p=q+1:=⟨_,rfl⟩
     have ec:((q+1:Nat):Int)=(p:Int):=by omega
     have eb:(p:Int) - 1=(q:Int):=by omega
     have rb:IntKind.i64.wrap (q:Int)=(q:Int):=by rw [IntKind.wrap_i64];omega
     have ba:(p:Int) < (N:Int):=by omega
     have bb:(q:Int) < (N:Int):=by omega
     have ltp:(a:Int) < (p:Int):=by omega
     have ltd:decide ((a:Int) < (p:Int))=true:=decide_eq_true ltp
     have p1:1≤(p:Int):=by omega
     have h0:dj.size=d0.size:=hsk.trans HT.out.size.symm
     have hp1:p < dj.size:=by omega
     have hq1:q < dj.size:=by omega
     obtain ⟨x,hx⟩:∃x,x=dj[p]!:=⟨_,rfl⟩
     obtain ⟨y,hy⟩:∃y,y=dj[q]!:=⟨_,rfl⟩
     have l1:=HX.out.cl HT.out.row h0 p hp1
     have l2:=HX.out.cl HT.out.row h0 q hq1
     have hc:=HX.out.cmp HT.out.cmp hsk x y
     have HV:=Lib.hid (HT.out.lt x y)
     have HXE:=Lib.hid (show x=dk[i]! by rw [hx,hp,HR.out.lo (q+1) (Nat.le_refl _) (by omega)];congr 1;omega)
     have HYE:=Lib.hid (show y=dk[q]! by rw [hy,HR.out.out q (by omega)])
     rw [←hx] at l1
     rw [←hy] at l2
     by_cases hv:cf x y < 0
     ·have hd:decide (cf x y < 0)=true:=decide_eq_true hv
      have S2:=Lib.hid (fun (n:Nat) (os:Array Obj)=>HX.out.grown n os)
      have HRN:=Lib.hid (HR.out.down (by omega) (by rw [HZ.out];omega))
      rw [←hp] at HRN
      have HCN:=Lib.hid (show q=i∨key dk[i]! < key dk[q]! from .inr (by rw [←HXE.out,←HYE.out];exact HV.out.1 hv))
      have hqi:q < i:=by omega
      rw [ec]
      have HXX:=Lib.hid hx;have HYY:=Lib.hid hy;have HP1:=Lib.hid (And.intro hp1 hq1);have HH0:=Lib.hid h0
      clear hx hy hp hp1 hq1 h0 hsk HR HC HOUT HD2 HXE HYE hja ec
      go_wp2_with fail
      go_quiet_grown (first | (go_at_fn g;refine Calls.grown_of (hc _ _)))
      have HK2:=Lib.hid (S2.out nq osq)
      clear l1 l2 hc HX S2
      generalize grow (wr.drewN nq) osq=w2 at HK2 ⊢
      clear nq osq
      have S3:=Lib.hid (HK2.out.swapped HT.out.row p q HP1.out.1 HP1.out.2)
      have c1:=HK2.out.c1 HT.out.row HH0.out p HP1.out.1
      have c2:=HK2.out.c1 HT.out.row HH0.out q HP1.out.2
      have f1:=HK2.out.f1 HT.out.row HH0.out p HP1.out.1
      have f2:=HK2.out.f1 HT.out.row HH0.out q HP1.out.2
      rw [←HXX.out,←HYY.out] at S3
      rw [←HXX.out] at c1
      rw [←HYY.out] at c2
      obtain ⟨u,c3⟩:=HK2.out.c2 HT.out.row HH0.out p q HP1.out.1 HP1.out.2 (e32 y)
      clear HK2
      go_wp2_with fail
      go_big_region_o
      clear c1 c2 c3 f1 f2
      generalize ((w2.setCell ⟨blk,off+p,none⟩ (e32 y)).setCell ⟨blk,off+q,none⟩ (e32 x)).drew=w3 at S3 ⊢
      go_wp2_with fail
      go_roundg q
      case measure=>omega
      case rel=>exact ⟨q,swp dj p q,rfl,by omega,by omega,Nat.le_refl _,HRN,HCN,S3⟩
     ·have hd:decide (cf x y < 0)=false:=decide_eq_false hv
      have HM:=Lib.hid (HOUT.out (.inr (by rw [Nat.add_sub_cancel,←HXE.out,←HYE.out];exact Int.not_lt.1 fun h=>hv (HV.out.2 h))))
      have HDN:=Lib.hid (HD2.out HM.out)
      rw [ec]
      clear hx hy hp hp1 hq1 h0 hsk HR HC HOUT HD2 HXE HYE hja ec
      go_wp2_with fail
      go_quiet_grown (first | (go_at_fn g;refine Calls.grown_of (hc _ _)))
      have HK2:=Lib.hid (HX.out.grown nq osq)
      clear l1 l2 hc HX
      generalize grow (wr.drewN nq) osq=w2 at HK2 ⊢
      clear nq osq
      go_wp2_with fail
      go_roundg (b - (i+1))
      case measure=>omega
      case rel=>exact ⟨i+1,dj,by go_num,by omega,by omega,by omega,HSK,HDN,Lib.hid HM.out.2,HK2⟩
    ·obtain rfl:j=a:=by omega
     have HM:=Lib.hid (HOUT.out (.inl rfl))
     have HDN:=Lib.hid (HD2.out HM.out)
     have hjj:decide ((j:Int) > (j:Int))=false:=by simp
     have hjl:¬(j:Int) < (j:Int):=by omega
     clear HOUT HD2 HR HC hsk
     go_wp2_with fail
     go_big_region_o
     have HK2:=Lib.hid HX.out.drew
     clear HX
     generalize wr.drew=w2 at HK2 ⊢
     go_wp2_with fail
     go_roundg (b - (i+1))
     case measure=>omega
     case rel=>exact ⟨i+1,dj,by go_num,by omega,by omega,by omega,HSK,HDN,Lib.hid HM.out.2,HK2⟩
  ·have hltz:¬(i:Int) < (b:Int):=by omega
   have HE:=Lib.hid (show Mg key a b d dk from ⟨HD.out,HO.out.mono (Nat.le_refl _) (by omega)⟩)
   clear HD HO
   go_wp2_with fail
   go_end0
   exact ⟨rfl,dk,HE.out,HK.out⟩
end Go.Proofs.YtdngaddggcmjgaaDoor.Norm
namespace Go.Proofs.YtdngaddggcmjgaaDoor.Norm
open Go.Shelf Go.RowKit Go.Sort
theorem Mg.flat {key:Int→Int} {a b:Nat} {d:Array Int} (h:Srt key a b d):Mg key a b d d:=⟨St.refl _ _ _,h⟩
set_option maxHeartbeats 16000000 in
set_option maxRecDepth 100000 in
theorem stable_any (key:Int→Int) (cf:Int→Int→Int) (g blk off cap N:Nat) (d0 d:Array Int) (w0 w:World) (T:Told key cf g blk off N d0 w0) (hN:d.size=N) (S:SW e32 w0 blk off d w) (hsm:N≤1099511627776) :
  Calls Tryd.prog 85 #[.slice (some ⟨blk,off,none⟩) N cap,.int .i64 N,.func (.func g) #[] #[]] w (MgEnd key blk off 0 N d w0):=by
 have HT:=Lib.hid T
 have HS:=Lib.hid S
 have HN:=Lib.hid hN
 have HI:=Lib.hid (fun (a b:Nat) (dk:Array Int) (W:World) (h1:dk.size=N) (h2:SW e32 w0 blk off dk W) (h3:a≤b) (h4:b≤N)=>ins_any key cf g blk off cap a b N d0 dk w0 W T h1 h2 h3 h4)
 have HM:=Lib.hid (fun (a m b:Nat) (dk:Array Int) (W:World) (h1:dk.size=N) (h2:SW e32 w0 blk off dk W) (h3:a < m) (h4:m < b) (h5:b≤N) (h6:Srt key a m dk) (h7:Srt key m b dk)=>sym_any key cf g blk off cap N d0 w0 T (b - a) a m b dk W (Nat.le_refl _) h1 h2 h3 h4 h5 h6 h7)
 clear T S hN
 go_enter Tryd.func85,Tryd.ntmps85
 go_wp2_with fail
 go_loopg [7,8] N (fun g1 va vb wr=>∃(a b:Nat) (dk:Array Int),va=.int .i64 a∧vb=.int .i64 b∧a≤N∧b≤N+20∧N - a≤g1∧Hid (b=a+20)∧Hid (20 ∣ a)∧Hid (dk.size=N)∧Hid (St key 0 N d dk)∧Hid (Bu key 20 a dk)∧Hid (SW e32 w0 blk off dk wr))
 case atStart=>exact ⟨0,20,d,rfl,rfl,Nat.zero_le _,by omega,Nat.le_refl _,Lib.hid rfl,Lib.hid ⟨0,rfl⟩,HN,Lib.hid (St.refl _ _ _),Lib.hid (fun x _ h=>by omega),HS⟩
 case round =>
  clear HS
  obtain ⟨a,b,dk,rfl,rfl,ha,hb,hg,HB,HDV,HZ,HD,HU,HK⟩:=hrel
  by_cases hlt:b≤N
  ·have hltz:(b:Int)≤(N:Int):=by omega
   go_wp2_with fail
   refine (HI.out a b dk _ HZ.out HK.out (by have:=HB.out;omega) hlt).mono ?_
   rintro e w1 ⟨rfl,d1,hm,hk⟩
   have HB2:=Lib.hid (HB.out ▸ hm:Mg key a (a+20) dk d1)
   have HU2:=Lib.hid (HU.out.step HDV.out HB2.out)
   rw [←HB.out] at HU2
   have HD2:=Lib.hid (HD.out.trans (hm.1.mono (Nat.zero_le _) (by have:=HB.out;omega) hlt))
   have HZ2:=Lib.hid (hm.1.size.trans HZ.out)
   have HK2:=Lib.hid hk
   have HDV2:=Lib.hid (show 20 ∣ b by rw [HB.out];exact Nat.dvd_add HDV.out (Nat.dvd_refl _))
   have hab:a < b:=by have:=HB.out;omega
   clear hm hk HK HZ HD HU HDV
   go_wp2_with fail
   go_roundg (N - b)
   case measure=>omega
   case rel=>exact ⟨b,b+20,d1,rfl,by go_num,hlt,by omega,Nat.le_refl _,Lib.hid rfl,HDV2,HZ2,HD2,HU2,HK2⟩
  ·have hltz:¬(b:Int)≤(N:Int):=by omega
   go_wp2_with fail
   refine (HI.out a N dk _ HZ.out HK.out ha (Nat.le_refl _)).mono ?_
   rintro e w1 ⟨rfl,d1,hm,hk⟩
   have HL1:=Lib.hid (HU.out.done HDV.out (by have:=HB.out;omega) hm ha)
   have HD1:=Lib.hid (HD.out.trans (hm.1.mono (Nat.zero_le _) ha (Nat.le_refl _)))
   have HZ1:=Lib.hid (hm.1.size.trans HZ.out)
   have HK1:=Lib.hid hk
   clear hm hk HK HZ HD HU HDV HB hlt hltz hg
   go_wp2_with fail
   go_loopg [6,7,8,9] (N+1) (fun g2 vs va vb vm wr=>∃(s:Nat) (dj:Array Int),vs=.int .i64 s∧1≤s∧s≤2199023255552∧N+1 - s≤g2∧Hid (dj.size=N)∧Hid (St key 0 N d dj)∧Hid (Bl key s 0 N dj)∧Hid (SW e32 w0 blk off dj wr))
   case atStart=>exact ⟨20,d1,rfl,by omega,by omega,by omega,HZ1,HD1,HL1,HK1⟩
   case round =>
    clear HK1 HZ1 HD1 HL1
    obtain ⟨s,dj,rfl,hs1,hs2,hg,HZ,HD,HL,HK⟩:=hrel
    by_cases hlt:s < N
    ·have hltz:(s:Int) < (N:Int):=by omega
     obtain ⟨t,ht⟩:∃t,t=s+s:=⟨_,rfl⟩
     have ht1:2*(s:Int)=(t:Int):=by omega
     have ht2:(s:Int)*2=(t:Int):=by omega
     have ht3:t≤2199023255552:=by omega
     have ht4:s < t:=by omega
     have HTS:=Lib.hid ht
     clear ht
     go_wp2_with fail
     go_loopg [7,8] N (fun g3 va vb wx=>∃(x y:Nat) (dx:Array Int),va=.int .i64 x∧vb=.int .i64 y∧x≤N∧y≤N+t∧x < y∧N - x≤g3∧Hid (y=x+t)∧Hid (t ∣ x)∧Hid (dx.size=N)∧Hid (St key 0 N d dx)∧Hid (Bu key t x dx)∧Hid (Bl key s x N dx)∧Hid (SW e32 w0 blk off dx wx))
     case atStart=>exact ⟨0,t,dj,rfl,rfl,Nat.zero_le _,by omega,by omega,Nat.le_refl _,Lib.hid (by omega),Lib.hid ⟨0,by simp⟩,HZ,HD,Lib.hid (fun x _ h=>by omega),HL,HK⟩
     case round =>
      clear HZ HD HL HK
      obtain ⟨x,y,dx,rfl,rfl,hx,hy,hxy,hg3,HY,HDV,HZ,HD,HU,HL,HK⟩:=hrel
      have HDS:=Lib.hid (show s ∣ x from Nat.dvd_trans ⟨2,by rw [HTS.out];omega⟩ HDV.out)
      obtain ⟨z,hz⟩:∃z,z=x+s:=⟨_,rfl⟩
      have hzz:(x:Int)+(s:Int)=(z:Int):=by omega
      have HZE:=Lib.hid hz
      have hz1:x < z:=by omega
      have hz2:z < y:=by have:=HY.out;have:=HTS.out;omega
      clear hz
      by_cases hle:y≤N
      ·have hlez:(y:Int)≤(N:Int):=by omega
       have HS2:=Lib.hid (HL.out.two HDS.out (by have:=HZE.out;omega))
       rw [←HZE.out,show min (z+s) N=y by have:=HZE.out;have:=HY.out;have:=HTS.out;omega] at HS2
       go_wp2_with fail
       refine (HM.out x z y dx _ HZ.out HK.out hz1 hz2 hle HS2.out.1 HS2.out.2).mono ?_
       rintro e w2 ⟨rfl,d2,hm,hk⟩
       have HU2:=Lib.hid (HU.out.step HDV.out (HY.out ▸ hm:Mg key x (x+t) dx d2))
       rw [←HY.out] at HU2
       have HL2:=Lib.hid (HL.out.step hm (by omega))
       have HD2:=Lib.hid (HD.out.trans (hm.1.mono (Nat.zero_le _) (by omega) hle))
       have HZ2:=Lib.hid (hm.1.size.trans HZ.out)
       have HK2:=Lib.hid hk
       have HDV2:=Lib.hid (show t ∣ y by rw [HY.out];exact Nat.dvd_add HDV.out (Nat.dvd_refl _))
       clear hm hk HK HZ HD HU HDV HL HS2
       go_wp2_with fail
       go_roundg (N - y)
       case measure=>omega
       case rel=>exact ⟨y,y+t,d2,rfl,by go_num,hle,by omega,by omega,Nat.le_refl _,Lib.hid rfl,HDV2,HZ2,HD2,HU2,HL2,HK2⟩
      ·have hlez:¬(y:Int)≤(N:Int):=by omega
       by_cases hzN:z < N
       ·have hzNz:(z:Int) < (N:Int):=by omega
        have HS2:=Lib.hid (HL.out.two HDS.out (by have:=HZE.out;omega))
        rw [←HZE.out,show min (z+s) N=N by have:=HZE.out;have:=HY.out;have:=HTS.out;omega] at HS2
        go_wp2_with fail
        refine (HM.out x z N dx _ HZ.out HK.out hz1 hzN (Nat.le_refl _) HS2.out.1 HS2.out.2).mono ?_
        rintro e w2 ⟨rfl,d2,hm,hk⟩
        have HL2:=Lib.hid (HU.out.done HDV.out (by have:=HY.out;omega) hm hx)
        have HD2:=Lib.hid (HD.out.trans (hm.1.mono (Nat.zero_le _) hx (Nat.le_refl _)))
        have HZ2:=Lib.hid (hm.1.size.trans HZ.out)
        have HK2:=Lib.hid hk
        clear hm hk HK HZ HD HU HDV HL HS2
        go_wp2_with fail
        go_roundg (N+1 - t)
        case measure=>omega
        case rel=>exact ⟨t,d2,rfl,by omega,ht3,Nat.le_refl _,HZ2,HD2,HL2,HK2⟩
       ·have hzNz:¬(z:Int) < (N:Int):=by omega
        have HL2:=Lib.hid (HU.out.done HDV.out (by have:=HY.out;omega) (Mg.flat (by
         have:=HL.out x HDS.out (Nat.le_refl _)
         rwa [show min (x+s) N=N by have:=HZE.out;omega] at this)) hx)
        clear HU HDV HL HDS
        go_wp2_with fail
        go_roundg (N+1 - t)
        case measure=>omega
        case rel=>exact ⟨t,dx,rfl,by omega,ht3,Nat.le_refl _,HZ,HD,HL2,HK⟩
    ·have hltz:¬(s:Int) < (N:Int):=by omega
     have HE:=Lib.hid (show Mg key 0 N d dj from ⟨HD.out,HL.out.one (by omega)⟩)
     clear HD HL
     go_wp2_with fail
     go_end0
     exact ⟨rfl,dj,HE.out,HK.out⟩
theorem sortStable_any (key:Int→Int) (cf:Int→Int→Int) (g blk off cap N:Nat) (d0 d:Array Int) (w0 w:World) (T:Told key cf g blk off N d0 w0) (hN:d.size=N) (S:SW e32 w0 blk off d w) (hsm:N≤1099511627776) :
  Calls Tryd.prog 74 #[.slice (some ⟨blk,off,none⟩) N cap,.func (.func g) #[] #[]] w (MgEnd key blk off 0 N d w0):=by
 have HC:=Lib.hid (stable_any key cf g blk off cap N d0 d w0 w T hN S hsm)
 clear T S hN
 go_enter Tryd.func74,Tryd.ntmps74
 go_wp2_with fail
 refine HC.out.mono ?_
 rintro e w1 ⟨rfl,h⟩
 have H:=Lib.hid h
 clear h
 go_wp2_with fail
 go_end0
 exact ⟨rfl,H.out⟩
end Go.Proofs.YtdngaddggcmjgaaDoor.Norm
