/-
  Texts of stage 7, part 3.
-/
import Derived.Test.YtdngaddggcmjgaaDoorChecked
import Derived.IntWalk
import Derived.Outline
import Derived.BigQuiet
import Derived.Lib.BitFns
import Derived.Deep.QuietTactic
import Derived.Test.YtdngaddggcmjgaaDoorW2
namespace Go.Proofs.YtdngaddggcmjgaaDoor.Utf
open Go.RowKit
set_option maxRecDepth 100000
def vld (r:Int):Bool:=decide (0≤r∧r≤1114111∧(r < 55296∨57343 < r))
theorem vld_iff (r:Int):vld r=true↔(0≤r∧r≤1114111∧(r < 55296∨57343 < r)):=by simp [vld]
theorem valid_any (r:Int) (w:World):Calls Tryd.prog 52 #[.int .i32 r] w fun e w'=>e=.returned (.bool (vld r))∧w=w':=by
 have key:∀b:Bool,(b=true↔(0≤r∧r≤1114111∧(r < 55296∨57343 < r)))→Ending.returned (.bool b)=.returned (.bool (vld r)):=by
  intro b hb
  have:b=vld r:=by rw [Bool.eq_iff_iff,hb,vld_iff]
  rw [this]
 go_enter Tryd.func52,Tryd.ntmps52
 go_wp2
 all_goals go_ret
 all_goals exact ⟨key _ (by first | (simp;omega) | simp),rfl⟩
theorem rvalid_any (r:Int) (w:World):Calls Tryd.prog 57 #[.int .i32 r] w fun e w'=>e=.returned (.bool (vld r))∧w=w':=by
 have key:∀b:Bool,(b=true↔(0≤r∧r≤1114111∧(r < 55296∨57343 < r)))→Ending.returned (.bool b)=.returned (.bool (vld r)):=by
  intro b hb
  have:b=vld r:=by rw [Bool.eq_iff_iff,hb,vld_iff]
  rw [this]
 go_enter Tryd.func57,Tryd.ntmps57
 go_wp2
 all_goals go_ret
 all_goals exact ⟨key _ (by first | (simp;omega) | simp),rfl⟩
theorem need_key (c n:Nat) (h:need c=n):Ending.returned (.int .i64 (n:Int))=.returned (.int .i64 (need c)):=by subst h;rfl
set_option maxRecDepth 100000 in
theorem length_any (c:Nat) (hc:c < 256) (w:World):Calls Tryd.prog 97 #[.int .u8 c] w fun e w'=>e=.returned (.int .i64 (need c))∧w=w':=by
 go_enter Tryd.func97,Tryd.ntmps97
 go_wp2
 all_goals go_ret
 ·exact ⟨need_key c 1 (by unfold need;repeat (first | (rw [if_pos (by omega)]) | rw [if_neg (by omega)])),rfl⟩
 ·exact ⟨need_key c 0 (by unfold need;repeat (first | (rw [if_pos (by omega)]) | rw [if_neg (by omega)])),rfl⟩
 ·exact ⟨need_key c 2 (by unfold need;repeat (first | (rw [if_pos (by omega)]) | rw [if_neg (by omega)])),rfl⟩
 ·exact ⟨need_key c 3 (by unfold need;repeat (first | (rw [if_pos (by omega)]) | rw [if_neg (by omega)])),rfl⟩
 ·exact ⟨need_key c 4 (by unfold need;repeat (first | (rw [if_pos (by omega)]) | rw [if_neg (by omega)])),rfl⟩
 ·exact ⟨need_key c 0 (by unfold need;repeat (first | (rw [if_pos (by omega)]) | rw [if_neg (by omega)])),rfl⟩
theorem second_any (c:Nat) (hc:c < 256) (w:World) :
  Calls Tryd.prog 98 #[.int .u8 c] w fun e w'=>e=.returned (.tuple #[.int .u8 (lo c),.int .u8 (hi c)])∧w=w':=by
 have key:∀a b:Nat,lo c=a→hi c=b→Ending.returned (.tuple #[.int .u8 (a:Int),.int .u8 (b:Int)])=.returned (.tuple #[.int .u8 (lo c),.int .u8 (hi c)]):=by rintro a b rfl rfl;rfl
 by_cases h1:c=224
 ·subst h1
  go_enter Tryd.func98,Tryd.ntmps98
  go_wp2
  go_ret2
  exact ⟨rfl,rfl⟩
 by_cases h2:c=237
 ·subst h2
  go_enter Tryd.func98,Tryd.ntmps98
  go_wp2
  go_ret2
  exact ⟨rfl,rfl⟩
 by_cases h3:c=240
 ·subst h3
  go_enter Tryd.func98,Tryd.ntmps98
  go_wp2
  go_ret2
  exact ⟨rfl,rfl⟩
 by_cases h4:c=244
 ·subst h4
  go_enter Tryd.func98,Tryd.ntmps98
  go_wp2
  go_ret2
  exact ⟨rfl,rfl⟩
 have b1:((c:Int) == 224)=false:=by simp;omega
 have b2:((c:Int) == 237)=false:=by simp;omega
 have b3:((c:Int) == 240)=false:=by simp;omega
 have b4:((c:Int) == 244)=false:=by simp;omega
 have L:lo c=128:=by unfold lo;rw [if_neg h1,if_neg h3]
 have R:hi c=191:=by unfold hi;rw [if_neg h2,if_neg h4]
 have K:=key 128 191 L R
 have HK:=Lib.hid K
 clear K key L R h1 h2 h3 h4
 go_enter Tryd.func98,Tryd.ntmps98
 go_wp2
 go_ret2
 exact ⟨HK.out,rfl⟩
theorem further_any (r:Int) (w:World) :
  Calls Tryd.prog 53 #[.int .i32 r] w fun e w'=>e=.returned (.int .u8 (128+r % 64))∧w=w':=by
 go_enter Tryd.func53,Tryd.ntmps53
 go_wp2
 go_ret
 exact ⟨rfl,rfl⟩
theorem bitLen_le (n:Nat) (h:n < 256):Lib.bitLen n≤8:=by
 have:∀n:Fin 256,Lib.bitLen n.val≤8:=by decide +kernel
 exact this ⟨n,h⟩
set_option maxHeartbeats 4000000 in
set_option maxRecDepth 100000 in
theorem len8_any (x:Int) (w:World) (h0:0≤x) (h1:x≤255) :
  Calls Tryd.prog 102 #[.int .u8 x] w fun e w'=>e=.returned (.int .i64 (Lib.bitLen x.toNat))∧w=w':=by
 have e:=Lib.len8_of x h0 h1
 have l:=bitLen_le x.toNat (by omega)
 rw [←e]
 have l2:Lib.len8 x≤8:=by rw [e];omega
 have l3:0≤Lib.len8 x:=by rw [e];omega
 have HE:=Lib.hid e
 clear e l
 go_enter Tryd.func102,Tryd.ntmps102
 go_wp2
 go_ret
 exact ⟨rfl,rfl⟩
theorem zeros_any (x:Int) (w:World) (h0:0≤x) (h1:x≤255) :
  Calls Tryd.prog 99 #[.int .u8 x] w fun e w'=>e=.returned (.int .i64 ((8 - Lib.bitLen x.toNat:Nat):Int))∧w=w':=by
 have hb:=bitLen_le x.toNat (by omega)
 obtain ⟨L,hL⟩:∃L,L=Lib.bitLen x.toNat:=⟨_,rfl⟩
 rw [←hL] at hb ⊢
 have HL:=Lib.hid hL
 clear hL
 go_enter Tryd.func99,Tryd.ntmps99
 go_wp2_with fail
 refine (len8_any x _ h0 h1).mono ?_
 rintro e w' ⟨rfl,rfl⟩
 rw [←HL.out]
 go_wp2
 go_ret
 exact ⟨by go_num,rfl⟩
end Go.Proofs.YtdngaddggcmjgaaDoor.Utf
namespace Go.Proofs.YtdngaddggcmjgaaDoor.Utf
open Go.RowKit
set_option maxRecDepth 100000
theorem run_go {l:List UInt8} {k n a b:Nat} (hk:k < l.length) (h1:k < n) (h2:a≤l[k].toNat) (h3:l[k].toNat≤b):run k n a b (l.drop k)=run (k+1) n 128 191 (l.drop (k+1)):=by
 rw [List.drop_eq_getElem_cons hk]
 conv=>lhs;unfold run
 rw [if_pos ⟨h1,h2,h3⟩]
theorem run_end {l:List UInt8} {k n a b:Nat} (h:¬(k < n∧∃hk:k < l.length,a≤l[k].toNat∧l[k].toNat≤b)):run k n a b (l.drop k)=k:=by
 by_cases hk:k < l.length
 ·rw [List.drop_eq_getElem_cons hk]
  unfold run
  rw [if_neg (fun hc=>h ⟨hc.1,hk,hc.2⟩)]
 ·rw [List.drop_eq_nil_of_le (by omega)];rfl
theorem ret_two {a b c d:Int} (h1:a=c) (h2:b=d):Ending.returned (.tuple #[.int .i64 a,.int .i64 b])=.returned (.tuple #[.int .i64 c,.int .i64 d]):=by rw [h1,h2]
set_option maxHeartbeats 1000000 in
theorem measure_any (A:Option Addr) (l:List UInt8) (c B:Nat) (w:World) (hr:Rd w B A (bys l)) (hne:0 < l.length) (hlen:l.length≤9223372036854775807) :
  Calls Tryd.prog 90 #[.slice A l.length c] w fun e w'=>e=.returned (.tuple #[.int .i64 (wid l),.int .i64 (nd l)])∧w=w':=by
 obtain ⟨b,o,rfl,hb⟩:=hr.form (by rw [bys_len];exact hne)
 have hcell0:w.cell? ⟨b,o,none⟩=some (.int .u8 l[0].toNat):=hr.byte hne
 have hlt0:l[0].toNat < 256:=l[0].toNat_lt
 obtain ⟨x,hx⟩:∃x,x=l[0].toNat:=⟨_,rfl⟩
 rw [←hx] at hcell0 hlt0
 have hwid:wid l=run 1 (need x) (lo x) (hi x) (l.drop 1):=by
  cases l with
  | nil=>simp at hne
  | cons q t=>subst hx;rfl
 have hnd:nd l=need x:=by
  cases l with
  | nil=>simp at hne
  | cons q t=>subst hx;rfl
 have hn4:=need_le x
 have hlo:lo x≤255:=by unfold lo;repeat (split <;> try omega)
 have hhi:hi x≤255:=by unfold hi;repeat (split <;> try omega)
 rw [hwid,hnd]
 have HX:=Lib.hid hx
 clear hx hwid hnd
 obtain ⟨N,hN⟩:∃N,N=need x:=⟨_,rfl⟩
 obtain ⟨M,hM⟩:∃M,M=run 1 (need x) (lo x) (hi x) (l.drop 1):=⟨_,rfl⟩
 have HM:=Lib.hid hM
 rw [←hM]
 clear hM
 have hp:(0:Int) < (l.length:Int):=by omega
 go_enter Tryd.func90,Tryd.ntmps90
 go_wp2_with (first
  | (go_at_call 97;refine (length_any x hlt0 _).mono ?_;rintro e w' ⟨rfl,rfl⟩)
  | (go_at_call 98;refine (second_any x hlt0 _).mono ?_;rintro e w' ⟨rfl,rfl⟩))
 rw [←hN] at hn4 HM ⊢
 have HN:=Lib.hid hN
 clear hN
 go_loop [2,4,5] (fun h a z=>∃k p q:Nat,1≤k∧k≤l.length∧p≤255∧q≤255∧Hid (run k N p q (l.drop k)=M)∧h=.int .i64 k∧a=.int .u8 p∧z=.int .u8 q)
  (fun h _ _=>l.length - (intOf h).toNat)
 case atStart=>exact ⟨1,_,_,Nat.le_refl _,hne,hlo,hhi,HM.out.symm,rfl,rfl,rfl⟩
 case round =>
  obtain ⟨k,p,q,hk1,hk,hp1,hq1,HR,rfl,rfl,rfl⟩:=hrel
  by_cases h1:k < N
  ·by_cases h2:k < l.length
   ·have hcell:w.cell? ⟨b,o+k,none⟩=some (.int .u8 l[k].toNat):=hr.byte h2
    have hlt:l[k].toNat < 256:=l[k].toNat_lt
    obtain ⟨y,hy⟩:∃y,y=l[k].toNat:=⟨_,rfl⟩
    rw [←hy] at hcell hlt
    by_cases h3:p≤y
    ·by_cases h4:y≤q
     ·have HG:Hid (run (k+1) N 128 191 (l.drop (k+1))=M):=by rw [←HR.out];exact (run_go h2 h1 (hy ▸ h3) (hy ▸ h4)).symm
      clear hy HX HM
      go_wp2
      go_round
      case rel=>exact ⟨k+1,128,191,by omega,by omega,by omega,by omega,HG,by go_num,rfl,rfl⟩
      case measure=>simp [intOf];omega
     ·have HE:Hid (k=M):=by rw [←HR.out];exact (run_end (fun ⟨_,_,_,h⟩=>h4 (hy ▸ h))).symm
      clear hy HX HM
      go_wp2
      go_ret2
      exact ⟨ret_two (by rw [HE.out]) (by rw [HN.out]),rfl⟩
    ·have HE:Hid (k=M):=by rw [←HR.out];exact (run_end (fun ⟨_,_,h,_⟩=>h3 (hy ▸ h))).symm
     clear hy HX HM
     go_wp2
     go_ret2
     exact ⟨ret_two (by rw [HE.out]) (by rw [HN.out]),rfl⟩
   ·have HE:Hid (k=M):=by rw [←HR.out];exact (run_end (fun ⟨_,h,_⟩=>h2 h)).symm
    clear HX HM
    go_wp2
    go_ret2
    exact ⟨ret_two (by rw [HE.out]) (by rw [HN.out]),rfl⟩
  ·have HE:Hid (k=M):=by rw [←HR.out];exact (run_end (fun ⟨h,_⟩=>h1 h)).symm
   clear HX HM
   go_wp2
   go_ret2
   exact ⟨ret_two (by rw [HE.out]) (by rw [HN.out]),rfl⟩
theorem measure_at (A:Option Addr) (l:List UInt8) (n c B:Nat) (w:World) (hn:l.length=n) (hr:Rd w B A (bys l)) (hne:0 < n) (hlen:n≤9223372036854775807) :
  Calls Tryd.prog 90 #[.slice A n c] w fun e w'=>e=.returned (.tuple #[.int .i64 (wid l),.int .i64 (nd l)])∧w=w':=by
 subst hn;exact measure_any A l c B w hr hne hlen
end Go.Proofs.YtdngaddggcmjgaaDoor.Utf
namespace Go.Proofs.YtdngaddggcmjgaaDoor.Utf
open Go.RowKit
set_option maxRecDepth 100000
theorem zeros_need:∀x:Fin 256,need x.val≠0→8 - Lib.bitLen (255 - x.val)=if need x.val=1 then 0 else need x.val:=by decide +kernel
theorem need_bounds:∀x:Fin 256,(need x.val=1→x.val < 128)∧(need x.val=2→194≤x.val∧x.val≤223)∧(need x.val=3→224≤x.val∧x.val≤239)∧(need x.val=4→240≤x.val∧x.val≤244):=by decide +kernel
theorem joinTo_go {t:List UInt8} {k r:Nat} (hk:k < t.length):joinTo r (t.drop k)=joinTo (r*64+t[k].toNat % 64) (t.drop (k+1)):=by
 rw [List.drop_eq_getElem_cons hk];rfl
theorem grow_go {m k r y:Nat} (hk:k < m) (h:(r+1)*64 ^ (m - k)≤2097152):(r+1)*64≤2097152∧(r*64+y % 64+1)*64 ^ (m - (k+1))≤2097152:=by
 obtain ⟨d,hd⟩:∃d,m - k=d+1:=⟨m - k - 1,by omega⟩
 have hd':m - (k+1)=d:=by omega
 have hp:1≤64 ^ d:=Nat.one_le_pow _ _ (by omega)
 have hy:y % 64 < 64:=Nat.mod_lt _ (by omega)
 rw [hd,Nat.pow_succ] at h
 rw [hd']
 have e:(r+1)*(64 ^ d*64)=((r+1)*64)*64 ^ d:=by rw [Nat.mul_comm (64 ^ d) 64,Nat.mul_assoc]
 rw [e] at h
 exact ⟨Nat.le_trans (Nat.le_mul_of_pos_right _ hp) h,Nat.le_trans (Nat.mul_le_mul_right _ (by omega)) h⟩
theorem lead_ne (x n:Nat) (h:n≠1):lead x n=x % 2 ^ (7 - n):=by unfold lead;rw [if_neg h]
theorem xor_all:∀x:Fin 256,bits BinOp.xor IntKind.u8 IntKind.u8.max (x.val:Int)=((255 - x.val:Nat):Int):=by decide +kernel
theorem ones_any (x:Nat) (m:Int) (hx:x < 256) (h:((8 - Lib.bitLen (255 - x):Nat):Int)=m) (w:World) :
  Calls Tryd.prog 99 #[.int .u8 (bits BinOp.xor IntKind.u8 IntKind.u8.max (x:Int))] w fun e w'=>e=.returned (.int .i64 m)∧w=w':=by
 rw [xor_all ⟨x,hx⟩]
 refine (zeros_any ((255 - x:Nat):Int) w (by omega) (by omega)).mono fun e w' ⟨he,hw⟩=>⟨?_,hw⟩
 rw [he,Int.toNat_natCast,h]
set_option maxHeartbeats 1000000 in
theorem join_any (A:Option Addr) (l:List UInt8) (c B:Nat) (w:World) (hr:Rd w B A (bys l)) (hne:0 < l.length) (hnd:l.length=nd l) (hc:l.length≤c) (hcm:c≤9223372036854775807) :
  Calls Tryd.prog 91 #[.slice A l.length c] w fun e w'=>e=.returned (.int .i32 (joined l))∧w=w':=by
 obtain ⟨b,o,rfl,hb⟩:=hr.form (by rw [bys_len];exact hne)
 cases l with
 | nil=>simp at hne
 | cons q t =>
 have hcell0:w.cell? ⟨b,o,none⟩=some (.int .u8 q.toNat):=hr.byte (k:=0) hne
 have hrt:∀k (h:k < t.length),w.cell? ⟨b,o+1+k,none⟩=some (.int .u8 t[k].toNat):=fun k h=>by
  have:=hr.byte (k:=k+1) (by simpa using h)
  rw [show o+1+k=o+(k+1) from by omega,this];rfl
 have hq:q.toNat < 256:=q.toNat_lt
 have hz:=zeros_need ⟨q.toNat,hq⟩
 obtain ⟨b1,b2,b3,b4⟩:=need_bounds ⟨q.toNat,hq⟩
 simp only [nd,List.length_cons,joined] at hnd hc hz b1 b2 b3 b4 ⊢
 obtain ⟨x,hx⟩:∃x,x=q.toNat:=⟨_,rfl⟩
 rw [←hx] at hcell0 hq hnd hz b1 b2 b3 b4 ⊢
 have hn4:=need_le x
 have HRT:Hid (∀k (h:k < t.length),w.cell? ⟨b,o+1+k,none⟩=some (.int .u8 t[k].toNat)):=hrt
 clear hrt hr hx
 by_cases hn1:need x=1
 ·have hz1:((8 - Lib.bitLen (255 - x):Nat):Int)=0:=by rw [hz (by omega),if_pos hn1];rfl
  have ht:t=[]:=List.eq_nil_of_length_eq_zero (by omega)
  subst ht
  have hx128:=b1 hn1
  have HZ:=Lib.hid hz1
  clear hz hz1 b1 b2 b3 b4 hn1 hnd HRT
  have hp:(0:Int) < ((0+1:Nat):Int):=by omega
  show Calls _ _ #[.slice _ 1 c] _ _
  go_enter Tryd.func91,Tryd.ntmps91
  go_wp2_with (first
   | (go_at_call 99;refine (ones_any x 0 hq HZ.out _).mono ?_;rintro e w' ⟨rfl,rfl⟩))
  all_goals
   refine wp_loop_rounds 1 ?_
   rw [rounds_succ]
   go_wp2
   go_ret
   exact ⟨rfl,rfl⟩
 ·have hcase:(t.length=1∧need x=2∧194≤x∧x≤223)∨(t.length=2∧need x=3∧224≤x∧x≤239)∨(t.length=3∧need x=4∧240≤x∧x≤244):=by omega
  have hz':((8 - Lib.bitLen (255 - x):Nat):Int)=(need x:Int):=by rw [hz (by omega),if_neg hn1]
  have HZ:=Lib.hid hz'
  clear hz hz' b1 b2 b3 b4 hn1
  obtain ⟨m,hm⟩:∃m,m=t.length:=⟨_,rfl⟩
  have HM:=Lib.hid hm
  rw [←hm] at hnd hc hcase ⊢
  clear hm
  obtain ⟨J,hJ⟩:∃J,J=joinTo (lead x (m+1)) t:=⟨_,rfl⟩
  rw [←hJ]
  have HJ0:=Lib.hid hJ
  clear hJ
  rcases hcase with ⟨rfl,h2,h3,h4⟩ | ⟨rfl,h2,h3,h4⟩ | ⟨rfl,h2,h3,h4⟩
  all_goals
   have HZ':Hid (((8 - Lib.bitLen (255 - x):Nat):Int)=((need x:Nat):Int)):=HZ
   clear HZ
   rw [h2] at HZ'
   clear hnd hn4 h2
   go_enter Tryd.func91,Tryd.ntmps91
   go_wp2_with (first
    | (go_at_call 99;refine (ones_any x _ hq HZ'.out _).mono ?_;rintro e w' ⟨rfl,rfl⟩))
   have HJ:Hid (joinTo (lead x (t.length+1)) t=J):=by rw [←HM.out];exact HJ0.out.symm
   have HL:Hid (lead x (t.length+1) < 64∧(lead x (t.length+1)+1)*64 ^ t.length≤2097152):=by
    rw [←HM.out];rw [lead_ne _ _ (by omega)];simp only [Nat.reduceAdd,Nat.reduceSub,Nat.reducePow];exact ⟨by omega,by omega⟩
   go_loop [4,23] (fun r i=>∃k z:Nat,k≤3∧Hid (k≤t.length)∧Hid (joinTo z (t.drop k)=J)∧Hid ((z+1)*64 ^ (t.length - k)≤2097152)∧z≤2097151∧r=.int .i32 z∧i=.int .i64 k)
    (fun _ i=>3 - (intOf i).toNat)
   case atStart =>
    refine ⟨0,lead x (t.length+1),by omega,Nat.zero_le _,HJ.out,HL.out.2,by have:=HL.out.1;omega,?_,rfl⟩
    rw [←HM.out];rw [lead_ne _ _ (by omega)];simp only [Nat.reduceAdd,Nat.reduceSub,Nat.reducePow];congr 1;omega
   case round =>
    obtain ⟨k,z,hk,HK,HR,HB,hz,rfl,rfl⟩:=hrel
    by_cases h1:k < t.length
    ·have hcell:=HRT.out k h1
     have hlt:t[k].toNat < 256:=t[k].toNat_lt
     have HG:Hid (joinTo (z*64+t[k].toNat % 64) (t.drop (k+1))=J):=(joinTo_go h1).symm.trans HR.out
     obtain ⟨g1,g2⟩:=grow_go (y:=t[k].toNat) h1 HB.out
     have HB':Hid ((z*64+t[k].toNat % 64+1)*64 ^ (t.length - (k+1))≤2097152):=g2
     have hk1:=h1
     rw [←HM.out] at hk1
     clear g2
     obtain ⟨y,hy⟩:∃y,y=t[k].toNat:=⟨_,rfl⟩
     rw [←hy] at hcell hlt HG HB'
     have HK1:Hid (k+1≤t.length):=h1
     clear hy h1 HR HB HL HJ HJ0 HRT
     go_wp2
     go_round
     case rel=>exact ⟨k+1,z*64+y % 64,by omega,HK1,HG,HB',by omega,by go_num,by go_num⟩
     case measure=>simp [intOf];omega
    ·have hkm:t.length=k:=by have:=HK.out;omega
     have HE2:Hid (z=J):=by rw [←HR.out,List.drop_eq_nil_of_le (by omega)];rfl
     rw [←HM.out] at hkm
     subst hkm
     clear HR HB HL HJ HJ0 HRT
     go_wp2
     go_ret
     exact ⟨by rw [←HE2.out];rfl,rfl⟩
theorem join_at (A:Option Addr) (l:List UInt8) (n c B:Nat) (w:World) (hn:l.length=n) (hr:Rd w B A (bys l)) (hne:0 < n) (hnd:n=nd l) (hc:n≤c) (hcm:c≤9223372036854775807) :
  Calls Tryd.prog 91 #[.slice A n c] w fun e w'=>e=.returned (.int .i32 (joined l))∧w=w':=by
 subst hn;exact join_any A l c B w hr hne hnd hc hcm
end Go.Proofs.YtdngaddggcmjgaaDoor.Utf
namespace Go.Proofs.YtdngaddggcmjgaaDoor.Utf
open Go.RowKit
set_option maxRecDepth 100000
theorem infoPt:(Tryd.prog.info? 51).map (fun i=>(i.zero,i.size,i.bytes))=some (some (.agg #[.int .i32 0,.int .i64 0,.int .i64 0]),3,24):=by kernel_rfl
theorem infoU8:(Tryd.prog.info? 5).map (fun i=>(i.zero,i.size,i.bytes))=some (some (.int .u8 0),1,1):=by kernel_rfl
theorem infoI32:(Tryd.prog.info? 21).map (fun i=>(i.zero,i.size,i.bytes))=some (some (.int .i32 0),1,4):=by kernel_rfl
def Sure (w:World) (k:Nat) (l:List UInt8) (e:Ending) (w':World):Prop :=
 ∃v,e=.returned (.tuple #[v,.int .i64 (eat l)])∧w'.ownsRow w.heap.size 51 3 v (dec true k l).length (pts (dec true k l))∧Below w.heap.size w w'
theorem rest_len {l:List UInt8} {k:Nat}:(l.drop k).length=l.length - k:=List.length_drop
theorem more_iff (l:List UInt8):more l=true↔wid l < nd l∧wid l=l.length:=by unfold more;simp
theorem sure_of {w w':World} {v:Value} {q k H:Nat} {l:List UInt8} {ps:List Pt} (hH:H=w.heap.size) (h1:ps=dec true q l) (h2:k=eat l) (hown:w'.ownsRow H 51 3 v ps.length (pts ps)) (hb:Below H w w') :
  Sure w q l (.returned (.tuple #[v,.int .i64 k])) w':=by
 subst hH h1 h2
 exact ⟨v,rfl,hown,hb⟩
theorem rd_new (u:World) (t:TypeId) (cs:List Value) (g:Nat) (hg:u.heap.size=g):Rd (u.alloc (.cells cs.toArray t)) (g+1) (some ⟨g,0,none⟩) cs:=fun _ =>
 ⟨g,0,rfl,by omega,fun j x hx=>by subst hg;rw [(Blk.new u t cs).cell,Nat.zero_add];exact hx⟩
theorem one3 {a b c:Int} {k1 k2 k3:IntKind}:∀u∈[Value.int k1 a,.int k2 b,.int k3 c],u.oneCell'=true:=by
 intro u hu
 simp only [List.mem_cons,List.not_mem_nil,or_false] at hu
 obtain rfl | rfl | rfl:=hu <;> rfl
set_option maxHeartbeats 2000000 in
theorem read_any (A:Option Addr) (l:List UInt8) (c q:Nat) (w:World) (hr:Rd w w.heap.size A (bys l)) (hc:l.length≤c) (hcm:c≤9223372036854775807) (hb:l.length≤1099511627776) (hq:q≤1099511627776) :
  Calls Tryd.prog 83 #[.slice A l.length c,.int .i64 q] w (Sure w q l):=by
 obtain ⟨i0,hi,hz0,hz1,hz2⟩:=info_parts infoPt
 obtain ⟨n,hn⟩:∃n,n=l.length:=⟨_,rfl⟩
 have HN:=Lib.hid hn
 rw [←hn] at hc hb ⊢
 clear hn
 obtain ⟨H,hH⟩:∃H,H=w.heap.size:=⟨_,rfl⟩
 rw [←hH] at hr
 have HH:=Lib.hid hH
 clear hH
 go_enter Tryd.func83,Tryd.ntmps83
 go_wp2
 go_loopw [4,5] (fun v i wr=>∃(k:Nat) (ps:List Pt),k≤n∧i=.int .i64 k∧wr.ownsRow H 51 3 v ps.length (pts ps)∧Hid (ps++dec true (q+k) (l.drop k)=dec true q l)∧Hid (k+eat (l.drop k)=eat l)∧ps.length≤k∧Below H w wr)
  (fun _ i _=>n - (intOf i).toNat)
 case atStart=>exact ⟨0,[],Nat.zero_le _,rfl,World.ownsRow_nil _ _ _ _,Lib.hid (by simp),Lib.hid (by simp),Nat.le_refl _,Below.refl _ _⟩
 case round =>
  obtain ⟨k,ps,hk,rfl,hown,HD,HE,hpk,hbel⟩:=hrel
  by_cases hlt:k < n
  ·have hlen:=HN.out
   obtain ⟨b,o,rfl,hbH⟩:=hr.form (by rw [bys_len];omega)
   have hrk:Rd w H (some ⟨b,o+k,none⟩) (bys (l.drop k)):=by have:=hr.drop_ k;rwa [bys_drop] at this
   have hrw:=hrk.below hbel
   have hkc:k < c:=by omega
   have hdl:(l.drop k).length=n - k:=by rw [rest_len,hlen]
   have hdne:l.drop k≠[]:=by intro e;rw [e] at hdl;simp at hdl;omega
   have hm0:=measure_at (some ⟨b,o+k,none⟩) (l.drop k) (n - k) (c - k) H wr hdl hrw (by omega) (by omega)
   have hw1:=wid_pos hdne
   have hw2:=wid_le (l.drop k)
   have hw4:=wid_four (l.drop k)
   rw [hdl] at hw2
   have hmi:=more_iff (l.drop k)
   rw [hdl] at hmi
   obtain ⟨W,hW⟩:∃W,W=wid (l.drop k):=⟨_,rfl⟩
   obtain ⟨N,hN⟩:∃N,N=nd (l.drop k):=⟨_,rfl⟩
   rw [←hW] at hw1 hw2 hw4
   rw [←hW,←hN] at hm0 hmi
   have hm:=Lib.hid hm0
   have HW:=Lib.hid hW
   have HNd:=Lib.hid hN
   have HMI:=Lib.hid hmi
   have HDN:=Lib.hid hdne
   have HDL:=Lib.hid hdl
   clear hm0 hW hN hmi hdne hdl hlen hr hrk
   by_cases hmore:W < N∧W=n - k
   ·obtain ⟨hm1,hm2⟩:=hmore
    have hm3:(W:Int)=((n - k:Nat):Int):=by omega
    have hm4:((W:Int) == (n:Int) - (k:Int))=true:=by simp;omega
    have hmt:more (l.drop k)=true:=HMI.out.2 ⟨hm1,hm2⟩
    have F1:=Lib.hid (show ps=dec true q l by rw [←HD.out,dec_stop HDN.out hmt,List.append_nil])
    have F2:=Lib.hid (show k=eat l by rw [←HE.out,eat_stop HDN.out hmt];rfl)
    clear hm2 hmt HD HE
    go_wp2_with (first
     | (go_at_call 90;refine hm.out.mono ?_;rintro e w' ⟨rfl,rfl⟩))
    go_ret2
    exact sure_of HH.out F1.out F2.out hown hbel
   ·by_cases heq:W=N
    ·have hmf:more (l.drop k)=false:=by
      cases h:more (l.drop k) with
      | false=>rfl
      | true=>exact absurd (HMI.out.1 h) hmore
     obtain ⟨J,hJ⟩:∃J,J=joined ((l.drop k).take W):=⟨_,rfl⟩
     have hru:rune (l.drop k)=J:=by unfold rune;rw [if_pos (by rw [←HW.out,←HNd.out];exact heq),hJ,HW.out]
     have F1:=Lib.hid (show ps++[⟨J,q+k,W⟩]++dec true (q+(k+W)) (l.drop (k+W))=dec true q l by
      rw [←HD.out,dec_step true _ HDN.out (by simp [hmf]),hru,←HW.out,List.drop_drop,List.append_assoc,←Nat.add_assoc];rfl)
     have F2:=Lib.hid (show k+W+eat (l.drop (k+W))=eat l by rw [←HE.out,eat_step HDN.out hmf,←HW.out,List.drop_drop,Nat.add_assoc])
     have hsz:H≤wr.heap.size:=by have:=hbel.size;rw [HH.out];exact this
     have hpt:pts (ps++[⟨J,q+k,W⟩])=pts ps++[.int .i32 J,.int .i64 ((q:Int)+(k:Int)),.int .i64 W]:=by rw [pts_append];rfl
     have HP:=Lib.hid hpt
     have hrt:Rd wr H (some ⟨b,o+k,none⟩) (bys ((l.drop k).take W)):=by have:=hrw.take_ W;rwa [bys_take] at this
     have htl:((l.drop k).take W).length=W:=by rw [List.length_take,HDL.out];omega
     have htn:W=nd ((l.drop k).take W):=by
      have h:=HNd.out
      rw [heq,h]
      have hne:=HDN.out
      cases hd:l.drop k with
      | nil=>exact absurd hd hne
      | cons x t=>rw [hd] at h;rw [←h,←heq];obtain ⟨W',hW'⟩:∃W',W=W'+1:=⟨W - 1,by omega⟩;rw [hW'];simp only [List.take_succ_cons,nd] at h ⊢;omega
     have hj:∀(u:World),Rd u H (some ⟨b,o+k,none⟩) (bys ((l.drop k).take W))→Calls Tryd.prog 91 #[.slice (some ⟨b,o+k,none⟩) W (c - k)] u fun e w'=>e=.returned (.int .i32 (J:Int))∧u=w':=by
      intro u hu
      rw [hJ]
      exact join_at _ _ W (c - k) H u htl hu (by omega) htn (by omega) (by omega)
     have HJC:=Lib.hid hj
     clear HD HE hmf hpt hru hJ htl htn hj hmore
     have h1:((W:Int) == (N:Int))=true:=by simp;omega
     have h2:¬(W:Int) < (N:Int):=by omega
     have HEQ:=Lib.hid heq
     clear heq
     go_wp2_with (first
      | (go_at_call 90;refine hm.out.mono ?_;rintro e w' ⟨rfl,rfl⟩)
      | (go_at_call 91;refine (HJC.out _ (hrt.alloc hsz _)).mono ?_;rintro e w' ⟨rfl,rfl⟩)
      | (at_builtin;refine wpList_append_rd _ rfl (.tmp 44) (.tmp 46) _ rfl H 51 i0 _ 3 24 Tryd.underlying48 hi hz0 hz1 hz2 rfl (by decide) _ _ _ rfl ((hown.alloc _).alloc _) _ (some ⟨wr.heap.size+1,0,none⟩) 1 1 [.int .i32 J,.int .i64 ((q:Int)+(k:Int)),.int .i64 W] rfl rfl (rd_new _ _ [.int .i32 J,.int .i64 ((q:Int)+(k:Int)),.int .i64 W] _ (by simp)) one3 (by unfold maxLen;omega) (by omega) (by simp;omega) ?_;intro v2 w2 hown2 hgr2 hat2))
     go_roundw
     case rel=>exact ⟨k+W,ps++[⟨J,q+k,W⟩],by omega,by go_num,by rw [HP.out,List.length_append];exact hown2,F1,F2,by simp;omega,((hbel.alloc hsz _).alloc (by simp;omega) _).grown hgr2 (by simp;omega) (fun g hg=>(hown.lt g hg).1)⟩
     case measure=>simp [intOf];omega
    ·have hmf:more (l.drop k)=false:=by
      cases h:more (l.drop k) with
      | false=>rfl
      | true=>exact absurd (HMI.out.1 h) hmore
     have F1:=Lib.hid (show ps++[⟨65533,q+k,W⟩]++dec true (q+(k+W)) (l.drop (k+W))=dec true q l by
      rw [←HD.out,dec_step true _ HDN.out (by simp [hmf]),←HW.out,List.drop_drop,List.append_assoc,←Nat.add_assoc]
      have:rune (l.drop k)=65533:=by unfold rune;rw [if_neg (by rw [←HW.out,←HNd.out];exact heq)]
      rw [this];rfl)
     have F2:=Lib.hid (show k+W+eat (l.drop (k+W))=eat l by rw [←HE.out,eat_step HDN.out hmf,←HW.out,List.drop_drop,Nat.add_assoc])
     have hsz:H≤wr.heap.size:=by have:=hbel.size;rw [HH.out];exact this
     have hpt:pts (ps++[⟨65533,q+k,W⟩])=pts ps++[.int .i32 65533,.int .i64 ((q:Int)+(k:Int)),.int .i64 W]:=by rw [pts_append];rfl
     have HP:=Lib.hid hpt
     clear HD HE hmf hpt
     have hcase:(N:Int) < (W:Int)∨((W:Int) < (N:Int)∧((W:Int) == ((n - k:Nat):Int))=false):=by
      by_cases h:W < N
      ·right;refine ⟨by omega,?_⟩;simp;intro h2;exact hmore ⟨h,by omega⟩
      ·left;omega
     have hne:((W:Int) == (N:Int))=false:=by simp;omega
     clear hmore heq
     rcases hcase with h1 | ⟨h1,h2⟩
     all_goals
      go_wp2_with (first
       | (go_at_call 90;refine hm.out.mono ?_;rintro e w' ⟨rfl,rfl⟩)
       | (at_builtin;refine wpList_append_rd _ rfl (.tmp 44) (.tmp 46) _ rfl H 51 i0 _ 3 24 Tryd.underlying48 hi hz0 hz1 hz2 rfl (by decide) _ _ _ rfl ((hown.alloc _).alloc _) _ (some ⟨wr.heap.size+1,0,none⟩) 1 1 [.int .i32 65533,.int .i64 ((q:Int)+(k:Int)),.int .i64 W] rfl rfl (rd_new _ _ [.int .i32 65533,.int .i64 ((q:Int)+(k:Int)),.int .i64 W] _ (by simp)) one3 (by unfold maxLen;omega) (by omega) (by simp;omega) ?_;intro v2 w2 hown2 hgr2 hat2))
      go_roundw
      case rel=>exact ⟨k+W,ps++[⟨65533,q+k,W⟩],by omega,by go_num,by rw [HP.out,List.length_append];exact hown2,F1,F2,by simp;omega,((hbel.alloc hsz _).alloc (by simp;omega) _).grown hgr2 (by simp;omega) (fun g hg=>(hown.lt g hg).1)⟩
      case measure=>simp [intOf];omega
  ·have hkn:k=n:=by omega
   have hnil:l.drop k=[]:=List.drop_eq_nil_of_le (by have:=HN.out;omega)
   have F1:=Lib.hid (show ps=dec true q l by rw [←HD.out,hnil,dec_nil,List.append_nil])
   have F2:=Lib.hid (show k=eat l by rw [←HE.out,hnil];rfl)
   clear HD HE hnil hkn
   go_wp2
   go_ret2
   exact sure_of HH.out F1.out F2.out hown hbel
end Go.Proofs.YtdngaddggcmjgaaDoor.Utf
namespace Go.Proofs.YtdngaddggcmjgaaDoor.Utf
open Go.RowKit
set_option maxRecDepth 100000
def encN (q:Nat):List UInt8 :=
 if q < 128 then [UInt8.ofNat q] else if q < 2048 then [UInt8.ofNat (192+q / 64),UInt8.ofNat (128+q % 64)]
 else if q < 65536 then [UInt8.ofNat (224+q / 4096),UInt8.ofNat (128+q / 64 % 64),UInt8.ofNat (128+q % 64)]
 else [UInt8.ofNat (240+q / 262144),UInt8.ofNat (128+q / 4096 % 64),UInt8.ofNat (128+q / 64 % 64),UInt8.ofNat (128+q % 64)]
def fix (r:Int):Nat:=if vld r then r.toNat else 65533
def enc (l:List Int):List UInt8:=l.flatMap fun r=>encN (fix r)
theorem encN_le (q:Nat):(encN q).length≤4:=by unfold encN;repeat (split <;> try simp)
theorem enc_le (l:List Int):(enc l).length≤4*l.length:=by
 induction l with
 | nil=>simp [enc]
 | cons r t ih =>
  have:=encN_le (fix r)
  simp only [enc,List.flatMap_cons,List.length_append,List.length_cons] at ih ⊢
  omega
theorem enc_append (a b:List Int):enc (a++b)=enc a++enc b:=List.flatMap_append
theorem fix_valid {r:Int} (h:vld r=true):∃q:Nat,r=q∧fix r=q∧q≤1114111:=by
 have h':=(vld_iff r).1 h
 exact ⟨r.toNat,by omega,by unfold fix;rw [if_pos h],by omega⟩
theorem fix_not {r:Int} (h:vld r=false):fix r=65533:=by unfold fix;rw [if_neg (by simp [h])]
theorem by_of (n:Nat) (h:n < 256):Value.int .u8 ((UInt8.ofNat n).toNat:Int)=.int .u8 (n:Int):=by
 have:(UInt8.ofNat n).toNat=n:=by simp [UInt8.toNat_ofNat'];omega
 rw [this]
theorem bys1 {q:Nat} (h:q < 128):bys (encN q)=[.int .u8 q]:=by
 unfold encN;rw [if_pos h];simp only [bys,List.map_cons,List.map_nil];rw [by_of _ (by omega)]
theorem bys2 {q:Nat} (h:128≤q) (h2:q < 2048):bys (encN q)=[.int .u8 (192+(q:Int) / 64),.int .u8 (128+(q:Int) % 64)]:=by
 unfold encN;rw [if_neg (by omega),if_pos h2];simp only [bys,List.map_cons,List.map_nil];rw [by_of _ (by omega),by_of _ (by omega)];rfl
theorem bys3 {q:Nat} (h:2048≤q) (h2:q < 65536):bys (encN q)=[.int .u8 (224+(q:Int) / 4096),.int .u8 (128+(q:Int) / 64 % 64),.int .u8 (128+(q:Int) % 64)]:=by
 unfold encN;rw [if_neg (by omega),if_neg (by omega),if_pos h2];simp only [bys,List.map_cons,List.map_nil];rw [by_of _ (by omega),by_of _ (by omega),by_of _ (by omega)];rfl
theorem bys4 {q:Nat} (h:65536≤q) (h2:q≤1114111):bys (encN q)=[.int .u8 (240+(q:Int) / 262144),.int .u8 (128+(q:Int) / 4096 % 64),.int .u8 (128+(q:Int) / 64 % 64),.int .u8 (128+(q:Int) % 64)]:=by
 unfold encN;rw [if_neg (by omega),if_neg (by omega),if_neg (by omega)];simp only [bys,List.map_cons,List.map_nil];rw [by_of _ (by omega),by_of _ (by omega),by_of _ (by omega),by_of _ (by omega)];rfl
def Grew (w:World) (base:Nat) (v:Value) (n:Nat) (xs:List Value) (l:List UInt8) (e:Ending) (w':World):Prop :=
 ∃v',e=.returned v'∧w'.ownsRow base 5 1 v' (n+l.length) (xs++bys l)∧∀H,base=H→H≤w.heap.size→(∀k,v.ownBlock=some k→H≤k)→Below H w w'
theorem grew_of {w w' u:World} {base n m:Nat} {v v':Value} {xs news:List Value} {l:List UInt8} (hm:news.length=m) (hl:bys l=news) (hu:∀H,H≤w.heap.size→Below H w u)
  (hown:w'.ownsRow base 5 1 v' (n+m) (xs++news)) (hg:u.grownBy w' v.ownBlock):Grew w base v n xs l (.returned v') w':=by
 subst hl
 rw [bys_len] at hm
 subst hm
 exact ⟨v',rfl,hown,fun H _ hH hk=>(hu H hH).grown hg (Nat.le_trans hH (hu H hH).size) hk⟩
theorem oneU8 {l:List Value} (h:∀u∈l,∃n:Int,u=.int .u8 n):∀u∈l,u.oneCell'=true:=fun u hu=>by obtain ⟨n,rfl⟩:=h u hu;rfl
set_option maxRecDepth 100000 in
set_option maxHeartbeats 2000000 in
theorem lay_any (base:Nat) (v:Value) (n:Nat) (xs:List Value) (r:Int) (w:World) (hown:w.ownsRow base 5 1 v n xs) (hb:base≤w.heap.size) (hn:n+4≤140737488355328) :
  Calls Tryd.prog 36 #[v,.int .i32 r] w (Grew w base v n xs (encN (fix r))):=by
 obtain ⟨i0,hi,hz0,hz1,hz2⟩:=info_parts infoU8
 cases hv:vld r with
 | true =>
  obtain ⟨q,rfl,hf,hq⟩:=fix_valid hv
  rw [hf]
  have HV:=Lib.hid hv
  clear hv hf
  have hcase:q < 128∨(128≤q∧q < 2048)∨(2048≤q∧q < 65536)∨65536≤q:=by omega
  rcases hcase with c1 | ⟨c1,c2⟩ | ⟨k1,k2⟩ | k1
  ·have HB:=Lib.hid (bys1 c1)
   go_enter Tryd.func36,Tryd.ntmps36
   go_wp2_with (first
    | (go_at_call 52;refine (valid_any _ _).mono ?_;rintro e w' ⟨rfl,rfl⟩;rw [HV.out])
    | (go_at_call 53;refine (further_any _ _).mono ?_;rintro e w' ⟨rfl,rfl⟩)
    | (at_builtin;refine wpList_append_rd _ rfl (.tmp 11) (.tmp 14) _ rfl base 5 i0 _ 1 1 Tryd.underlying22 hi hz0 hz1 hz2 rfl (by decide) _ _ _ rfl (hown.alloc _) _ (some ⟨w.heap.size,0,none⟩) 1 1 _ rfl rfl (rd_new _ _ [.int .u8 (q:Int)] _ (by simp)) (oneU8 (by simp)) (by unfold maxLen;omega) (by omega) (by simp;omega) ?_;intro v2 w2 hown2 hgr2 hat2))
   go_ret
   exact grew_of rfl HB.out (fun H hH=>(Below.refl _ _).alloc hH _) hown2 hgr2
  ·have HB:=Lib.hid (bys2 c1 c2)
   go_enter Tryd.func36,Tryd.ntmps36
   go_wp2_with (first
    | (go_at_call 52;refine (valid_any _ _).mono ?_;rintro e w' ⟨rfl,rfl⟩;rw [HV.out])
    | (go_at_call 53;refine (further_any _ _).mono ?_;rintro e w' ⟨rfl,rfl⟩)
    | (at_builtin;refine wpList_append_rd _ rfl (.tmp 19) (.tmp 26) _ rfl base 5 i0 _ 1 1 Tryd.underlying22 hi hz0 hz1 hz2 rfl (by decide) _ _ _ rfl (hown.alloc _) _ (some ⟨w.heap.size,0,none⟩) 2 2 _ rfl rfl (rd_new _ _ [.int .u8 (192+(q:Int) / 64),.int .u8 (128+(q:Int) % 64)] _ (by simp)) (oneU8 (by simp)) (by unfold maxLen;omega) (by omega) (by simp;omega) ?_;intro v2 w2 hown2 hgr2 hat2))
   go_ret
   exact grew_of rfl HB.out (fun H hH=>(Below.refl _ _).alloc hH _) hown2 hgr2
  ·have HB:=Lib.hid (bys3 k1 k2)
   have n1:¬(q:Int) < 128:=by omega
   have n2:¬(q:Int) < 2048:=by omega
   have n3:decide ((q:Int) < 128)=false:=by simp;omega
   have n4:decide ((q:Int) < 2048)=false:=by simp;omega
   have c2:(q:Int) < 65536:=by omega
   clear k1 k2 hq
   go_enter Tryd.func36,Tryd.ntmps36
   go_wp2_with (first
    | (go_at_call 52;refine (valid_any _ _).mono ?_;rintro e w' ⟨rfl,rfl⟩;rw [HV.out])
    | (go_at_call 53;refine (further_any _ _).mono ?_;rintro e w' ⟨rfl,rfl⟩)
    | (at_builtin;refine wpList_append_rd _ rfl (.tmp 31) (.tmp 41) _ rfl base 5 i0 _ 1 1 Tryd.underlying22 hi hz0 hz1 hz2 rfl (by decide) _ _ _ rfl (hown.alloc _) _ (some ⟨w.heap.size,0,none⟩) 3 3 _ rfl rfl (rd_new _ _ [.int .u8 (224+(q:Int) / 4096),.int .u8 (128+(q:Int) / 64 % 64),.int .u8 (128+(q:Int) % 64)] _ (by simp)) (oneU8 (by simp)) (by unfold maxLen;omega) (by omega) (by simp;omega) ?_;intro v2 w2 hown2 hgr2 hat2))
   go_ret
   exact grew_of rfl HB.out (fun H hH=>(Below.refl _ _).alloc hH _) hown2 hgr2
  ·have HB:=Lib.hid (bys4 k1 hq)
   have n1:¬(q:Int) < 128:=by omega
   have n2:¬(q:Int) < 2048:=by omega
   have n5:¬(q:Int) < 65536:=by omega
   have n3:decide ((q:Int) < 128)=false:=by simp;omega
   have n4:decide ((q:Int) < 2048)=false:=by simp;omega
   have n6:decide ((q:Int) < 65536)=false:=by simp;omega
   have c2:(q:Int)≤1114111:=by omega
   clear k1 hq
   go_enter Tryd.func36,Tryd.ntmps36
   go_wp2_with (first
    | (go_at_call 52;refine (valid_any _ _).mono ?_;rintro e w' ⟨rfl,rfl⟩;rw [HV.out])
    | (go_at_call 53;refine (further_any _ _).mono ?_;rintro e w' ⟨rfl,rfl⟩)
    | (at_builtin;refine wpList_append_rd _ rfl (.tmp 43) (.tmp 56) _ rfl base 5 i0 _ 1 1 Tryd.underlying22 hi hz0 hz1 hz2 rfl (by decide) _ _ _ rfl (hown.alloc _) _ (some ⟨w.heap.size,0,none⟩) 4 4 _ rfl rfl (rd_new _ _ [.int .u8 (240+(q:Int) / 262144),.int .u8 (128+(q:Int) / 4096 % 64),.int .u8 (128+(q:Int) / 64 % 64),.int .u8 (128+(q:Int) % 64)] _ (by simp)) (oneU8 (by simp)) (by unfold maxLen;omega) (by omega) (by simp;omega) ?_;intro v2 w2 hown2 hgr2 hat2))
   go_ret
   exact grew_of rfl HB.out (fun H hH=>(Below.refl _ _).alloc hH _) hown2 hgr2
 | false =>
  rw [fix_not hv]
  have HV:=Lib.hid hv
  clear hv
  have HB:=Lib.hid (show bys (encN 65533)=[.int .u8 239,.int .u8 191,.int .u8 189] from rfl)
  go_enter Tryd.func36,Tryd.ntmps36
  go_wp2_with (first
   | (go_at_call 52;refine (valid_any _ _).mono ?_;rintro e w' ⟨rfl,rfl⟩;rw [HV.out])
   | (go_at_call 53;refine (further_any _ _).mono ?_;rintro e w' ⟨rfl,rfl⟩)
   | (at_builtin;refine wpList_append_rd _ rfl (.tmp 31) (.tmp 41) _ rfl base 5 i0 _ 1 1 Tryd.underlying22 hi hz0 hz1 hz2 rfl (by decide) _ _ _ rfl (hown.alloc _) _ (some ⟨w.heap.size,0,none⟩) 3 3 _ rfl rfl (rd_new _ _ [.int .u8 239,.int .u8 191,.int .u8 189] _ (by simp)) (oneU8 (by simp)) (by unfold maxLen;omega) (by omega) (by simp;omega) ?_;intro v2 w2 hown2 hgr2 hat2))
  go_ret
  exact grew_of rfl HB.out (fun H hH=>(Below.refl _ _).alloc hH _) hown2 hgr2
set_option maxRecDepth 100000 in
set_option maxHeartbeats 2000000 in
theorem put_any (base:Nat) (v:Value) (n:Nat) (xs:List Value) (r:Int) (w:World) (hown:w.ownsRow base 5 1 v n xs) (hb:base≤w.heap.size) (hn:n+4≤140737488355328) :
  Calls Tryd.prog 41 #[v,.int .i32 r] w (Grew w base v n xs (encN (fix r))):=by
 obtain ⟨i0,hi,hz0,hz1,hz2⟩:=info_parts infoU8
 cases hv:vld r with
 | true =>
  obtain ⟨q,rfl,hf,hq⟩:=fix_valid hv
  rw [hf]
  have HV:=Lib.hid hv
  clear hv hf
  have hcase:q < 128∨(128≤q∧q < 2048)∨(2048≤q∧q < 65536)∨65536≤q:=by omega
  rcases hcase with c1 | ⟨c1,c2⟩ | ⟨k1,k2⟩ | k1
  ·have HB:=Lib.hid (bys1 c1)
   go_enter Tryd.func41,Tryd.ntmps41
   go_wp2_with (first
    | (go_at_call 57;refine (rvalid_any _ _).mono ?_;rintro e w' ⟨rfl,rfl⟩;rw [HV.out])
    | (at_builtin;refine wpList_append_rd _ rfl (.tmp 10) (.tmp 13) _ rfl base 5 i0 _ 1 1 Tryd.underlying22 hi hz0 hz1 hz2 rfl (by decide) _ _ _ rfl (hown.alloc _) _ (some ⟨w.heap.size,0,none⟩) 1 1 _ rfl rfl (rd_new _ _ [.int .u8 (q:Int)] _ (by simp)) (oneU8 (by simp)) (by unfold maxLen;omega) (by omega) (by simp;omega) ?_;intro v2 w2 hown2 hgr2 hat2))
   go_ret
   exact grew_of rfl HB.out (fun H hH=>(Below.refl _ _).alloc hH _) hown2 hgr2
  ·have HB:=Lib.hid (bys2 c1 c2)
   go_enter Tryd.func41,Tryd.ntmps41
   go_wp2_with (first
    | (go_at_call 57;refine (rvalid_any _ _).mono ?_;rintro e w' ⟨rfl,rfl⟩;rw [HV.out])
    | (at_builtin;refine wpList_append_rd _ rfl (.tmp 17) (.tmp 26) _ rfl base 5 i0 _ 1 1 Tryd.underlying22 hi hz0 hz1 hz2 rfl (by decide) _ _ _ rfl (hown.alloc _) _ (some ⟨w.heap.size,0,none⟩) 2 2 _ rfl rfl (rd_new _ _ [.int .u8 (192+(q:Int) / 64),.int .u8 (128+(q:Int) % 64)] _ (by simp)) (oneU8 (by simp)) (by unfold maxLen;omega) (by omega) (by simp;omega) ?_;intro v2 w2 hown2 hgr2 hat2))
   go_ret
   exact grew_of rfl HB.out (fun H hH=>(Below.refl _ _).alloc hH _) hown2 hgr2
  ·have HB:=Lib.hid (bys3 k1 k2)
   have n1:¬(q:Int) < 128:=by omega
   have n2:¬(q:Int) < 2048:=by omega
   have n3:decide ((q:Int) < 128)=false:=by simp;omega
   have n4:decide ((q:Int) < 2048)=false:=by simp;omega
   have c2:(q:Int) < 65536:=by omega
   clear k1 k2 hq
   go_enter Tryd.func41,Tryd.ntmps41
   go_wp2_with (first
    | (go_at_call 57;refine (rvalid_any _ _).mono ?_;rintro e w' ⟨rfl,rfl⟩;rw [HV.out])
    | (at_builtin;refine wpList_append_rd _ rfl (.tmp 30) (.tmp 44) _ rfl base 5 i0 _ 1 1 Tryd.underlying22 hi hz0 hz1 hz2 rfl (by decide) _ _ _ rfl (hown.alloc _) _ (some ⟨w.heap.size,0,none⟩) 3 3 _ rfl rfl (rd_new _ _ [.int .u8 (224+(q:Int) / 4096),.int .u8 (128+(q:Int) / 64 % 64),.int .u8 (128+(q:Int) % 64)] _ (by simp)) (oneU8 (by simp)) (by unfold maxLen;omega) (by omega) (by simp;omega) ?_;intro v2 w2 hown2 hgr2 hat2))
   go_ret
   exact grew_of rfl HB.out (fun H hH=>(Below.refl _ _).alloc hH _) hown2 hgr2
  ·have HB:=Lib.hid (bys4 k1 hq)
   have n1:¬(q:Int) < 128:=by omega
   have n2:¬(q:Int) < 2048:=by omega
   have n5:¬(q:Int) < 65536:=by omega
   have n3:decide ((q:Int) < 128)=false:=by simp;omega
   have n4:decide ((q:Int) < 2048)=false:=by simp;omega
   have n6:decide ((q:Int) < 65536)=false:=by simp;omega
   have c2:(q:Int)≤1114111:=by omega
   clear k1 hq
   go_enter Tryd.func41,Tryd.ntmps41
   go_wp2_with (first
    | (go_at_call 57;refine (rvalid_any _ _).mono ?_;rintro e w' ⟨rfl,rfl⟩;rw [HV.out])
    | (at_builtin;refine wpList_append_rd _ rfl (.tmp 46) (.tmp 65) _ rfl base 5 i0 _ 1 1 Tryd.underlying22 hi hz0 hz1 hz2 rfl (by decide) _ _ _ rfl (hown.alloc _) _ (some ⟨w.heap.size,0,none⟩) 4 4 _ rfl rfl (rd_new _ _ [.int .u8 (240+(q:Int) / 262144),.int .u8 (128+(q:Int) / 4096 % 64),.int .u8 (128+(q:Int) / 64 % 64),.int .u8 (128+(q:Int) % 64)] _ (by simp)) (oneU8 (by simp)) (by unfold maxLen;omega) (by omega) (by simp;omega) ?_;intro v2 w2 hown2 hgr2 hat2))
   go_ret
   exact grew_of rfl HB.out (fun H hH=>(Below.refl _ _).alloc hH _) hown2 hgr2
 | false =>
  rw [fix_not hv]
  have HV:=Lib.hid hv
  clear hv
  have HB:=Lib.hid (show bys (encN 65533)=[.int .u8 239,.int .u8 191,.int .u8 189] from rfl)
  go_enter Tryd.func41,Tryd.ntmps41
  go_wp2_with (first
   | (go_at_call 57;refine (rvalid_any _ _).mono ?_;rintro e w' ⟨rfl,rfl⟩;rw [HV.out])
   | (at_builtin;refine wpList_append_rd _ rfl (.tmp 30) (.tmp 44) _ rfl base 5 i0 _ 1 1 Tryd.underlying22 hi hz0 hz1 hz2 rfl (by decide) _ _ _ rfl (hown.alloc _) _ (some ⟨w.heap.size,0,none⟩) 3 3 _ rfl rfl (rd_new _ _ [.int .u8 239,.int .u8 191,.int .u8 189] _ (by simp)) (oneU8 (by simp)) (by unfold maxLen;omega) (by omega) (by simp;omega) ?_;intro v2 w2 hown2 hgr2 hat2))
  go_ret
  exact grew_of rfl HB.out (fun H hH=>(Below.refl _ _).alloc hH _) hown2 hgr2
end Go.Proofs.YtdngaddggcmjgaaDoor.Utf
namespace Go.Proofs.YtdngaddggcmjgaaDoor.Utf
open Go.RowKit
set_option maxRecDepth 100000
def Bs (w:World) (l:List UInt8) (e:Ending) (w':World):Prop :=
 ∃v,e=.returned v∧w'.ownsRow w.heap.size 5 1 v l.length (bys l)∧Below w.heap.size w w'
theorem bs_of {w w':World} {v:Value} {H:Nat} {l m:List UInt8} (hH:H=w.heap.size) (h1:l=m) (hown:w'.ownsRow H 5 1 v l.length (bys l)) (hb:Below H w w'):Bs w m (.returned v) w':=by
 subst hH h1
 exact ⟨v,rfl,hown,hb⟩
theorem enc_step {l:List Int} {k:Nat} (h:k < l.length):enc (l.take (k+1))=enc (l.take k)++encN (fix l[k]):=by
 rw [List.take_succ_eq_append_getElem h,enc_append];simp [enc]
set_option maxHeartbeats 1000000 in
theorem encode_any (A:Option Addr) (l:List Int) (n c:Nat) (w:World) (hr:Rd w w.heap.size A (nums l)) (hn:l.length=n) (hb:4*n≤140737488355320) :
  Calls Tryd.prog 21 #[.slice A n c] w (Bs w (enc l)):=by
 have HN:=Lib.hid hn
 obtain ⟨H,hH⟩:∃H,H=w.heap.size:=⟨_,rfl⟩
 rw [←hH] at hr
 have HH:=Lib.hid hH
 clear hH hn
 go_enter Tryd.func21,Tryd.ntmps21
 go_wp2
 go_loopw [3,8] (fun v i wr=>∃(k:Nat) (m:List UInt8),k≤n∧i=.int .i64 k∧wr.ownsRow H 5 1 v m.length (bys m)∧Hid (m=enc (l.take k))∧m.length≤4*k∧Below H w wr)
  (fun _ i _=>n - (intOf i).toNat)
 case atStart=>exact ⟨0,[],Nat.zero_le _,rfl,World.ownsRow_nil _ _ _ _,Lib.hid rfl,Nat.le_refl _,Below.refl _ _⟩
 case round =>
  obtain ⟨k,m,hk,rfl,hown,HD,hmk,hbel⟩:=hrel
  have hsz:H≤wr.heap.size:=by have:=hbel.size;rw [HH.out];exact this
  by_cases hlt:k < n
  ·have hkl:k < l.length:=by rw [HN.out];exact hlt
   obtain ⟨b,o,rfl,hbH⟩:=hr.form (by rw [nums_len];omega)
   have hcell:wr.cell? ⟨b,o+k,none⟩=some (.int .i32 l[k]):=(hr.below hbel).num hkl
   have HST:=Lib.hid (enc_step hkl)
   obtain ⟨r,hr'⟩:∃r,r=l[k]:=⟨_,rfl⟩
   rw [←hr'] at hcell HST
   have hlay:=lay_any H _ m.length (bys m) r wr hown hsz (by omega)
   have HL:=Lib.hid hlay
   have hel:=encN_le (fix r)
   clear hlay hr' hr hkl
   go_wp2_with (first
    | (go_at_call 36;refine HL.out.mono ?_;rintro e w1 ⟨v1,rfl,hown1,hb1⟩))
   go_roundw
   case rel=>exact ⟨k+1,m++encN (fix r),by omega,by go_num,by rw [bys_append,List.length_append];exact hown1,Lib.hid (by rw [HST.out,HD.out]),by rw [List.length_append];omega,hbel.trans (hb1 H rfl hsz (fun g hg=>(hown.lt g hg).1))⟩
   case measure=>simp [intOf];omega
  ·have F1:=Lib.hid (show m=enc l by rw [HD.out,List.take_of_length_le (by have:=HN.out;omega)])
   clear HD
   go_wp2
   go_ret
   exact bs_of HH.out F1.out hown hbel
set_option maxHeartbeats 1000000 in
theorem rencode_any (A:Option Addr) (l:List Int) (n c:Nat) (w:World) (hr:Rd w w.heap.size A (nums l)) (hn:l.length=n) (hb:4*n≤140737488355320) :
  Calls Tryd.prog 25 #[.slice A n c] w (Bs w (enc l)):=by
 have HN:=Lib.hid hn
 obtain ⟨H,hH⟩:∃H,H=w.heap.size:=⟨_,rfl⟩
 rw [←hH] at hr
 have HH:=Lib.hid hH
 clear hH hn
 go_enter Tryd.func25,Tryd.ntmps25
 go_wp2
 go_loopw [3,4] (fun v i wr=>∃(k:Nat) (m:List UInt8),k≤n∧i=.int .i64 k∧wr.ownsRow H 5 1 v m.length (bys m)∧Hid (m=enc (l.take k))∧m.length≤4*k∧Below H w wr)
  (fun _ i _=>n - (intOf i).toNat)
 case atStart=>exact ⟨0,[],Nat.zero_le _,rfl,World.ownsRow_nil _ _ _ _,Lib.hid rfl,Nat.le_refl _,Below.refl _ _⟩
 case round =>
  obtain ⟨k,m,hk,rfl,hown,HD,hmk,hbel⟩:=hrel
  have hsz:H≤wr.heap.size:=by have:=hbel.size;rw [HH.out];exact this
  by_cases hlt:k < n
  ·have hkl:k < l.length:=by rw [HN.out];exact hlt
   obtain ⟨b,o,rfl,hbH⟩:=hr.form (by rw [nums_len];omega)
   have hcell:wr.cell? ⟨b,o+k,none⟩=some (.int .i32 l[k]):=(hr.below hbel).num hkl
   have HST:=Lib.hid (enc_step hkl)
   obtain ⟨r,hr'⟩:∃r,r=l[k]:=⟨_,rfl⟩
   rw [←hr'] at hcell HST
   have hlay:=put_any H _ m.length (bys m) r wr hown hsz (by omega)
   have HL:=Lib.hid hlay
   have hel:=encN_le (fix r)
   clear hlay hr' hr hkl
   go_wp2_with (first
    | (go_at_call 41;refine HL.out.mono ?_;rintro e w1 ⟨v1,rfl,hown1,hb1⟩))
   go_roundw
   case rel=>exact ⟨k+1,m++encN (fix r),by omega,by go_num,by rw [bys_append,List.length_append];exact hown1,Lib.hid (by rw [HST.out,HD.out]),by rw [List.length_append];omega,hbel.trans (hb1 H rfl hsz (fun g hg=>(hown.lt g hg).1))⟩
   case measure=>simp [intOf];omega
  ·have F1:=Lib.hid (show m=enc l by rw [HD.out,List.take_of_length_le (by have:=HN.out;omega)])
   clear HD
   go_wp2
   go_ret
   exact bs_of HH.out F1.out hown hbel
end Go.Proofs.YtdngaddggcmjgaaDoor.Utf
namespace Go.Proofs.YtdngaddggcmjgaaDoor.Utf
open Go.RowKit
set_option maxRecDepth 100000
def bndN (c:Nat):List Nat:=if need c=2 then [lo c,hi c] else if need c=3 then [lo c,hi c,128,191] else if need c=4 then [lo c,hi c,128,191,128,191] else []
def u8s (l:List Nat):List Value:=l.map fun (n:Nat)=>.int .u8 (n:Int)
theorem u8s_len (l:List Nat):(u8s l).length=l.length:=List.length_map _
theorem u8s_get {l:List Nat} {k:Nat} (h:k < l.length):(u8s l)[k]? = some (.int .u8 l[k]):=by simp [u8s,List.getElem?_eq_getElem h]
theorem Rd.u8 {w:World} {B:Nat} {l:List Nat} {b o:Nat} (h:Rd w B (some ⟨b,o,none⟩) (u8s l)) {k:Nat} (hk:k < l.length):w.cell? ⟨b,o+k,none⟩=some (.int .u8 l[k]):=by
 have hne:u8s l≠[]:=by intro e;have:=congrArg List.length e;rw [u8s_len,List.length_nil] at this;omega
 obtain ⟨b',o',e,_,hc⟩:=h hne
 simp only [Option.some.injEq,Addr.mk.injEq,and_true] at e
 obtain ⟨rfl,rfl⟩:=e
 exact hc _ _ (u8s_get hk)
def Bounds (w:World) (c:Nat) (e:Ending) (w':World):Prop :=
 ∃A n,e=.returned (.tuple #[.slice A n n,.bool (decide (need c≠0))])∧n=(bndN c).length∧Rd w' w'.heap.size A (u8s (bndN c))∧Below w.heap.size w w'
theorem bounds_nil {w:World} {c:Nat} {b:Bool} (h:bndN c=[]) (hb:b=decide (need c≠0)):Bounds w c (.returned (.tuple #[.slice none 0 0,.bool b])) w :=
 ⟨none,0,by rw [hb],by rw [h];rfl,by rw [h];exact Rd.empty _ _ _,Below.refl _ _⟩
theorem bounds_new {w:World} {c n:Nat} {cs:List Nat} (h:bndN c=cs) (hn:cs.length=n) (hb:need c≠0) :
  Bounds w c (.returned (.tuple #[.slice (some ⟨w.heap.size,0,none⟩) n n,.bool true])) (w.alloc (.cells (u8s cs).toArray 5)):=by
 refine ⟨_,n,by rw [decide_eq_true hb],by rw [h,hn],?_,(Below.refl _ _).alloc (Nat.le_refl _) _⟩
 rw [h]
 exact (rd_new w _ _ _ rfl).more (by simp)
theorem rowFact1:∀c:Fin 256,c.val≤127→bndN c.val=[]∧need c.val≠0:=by decide +kernel
theorem rowFact2:∀c:Fin 256,128≤c.val→c.val≤193→bndN c.val=[]∧need c.val=0:=by decide +kernel
theorem rowFact3:∀c:Fin 256,194≤c.val→c.val≤223→bndN c.val=[128,191]∧need c.val≠0:=by decide +kernel
theorem rowFact4:∀c:Fin 256,c.val=224→bndN c.val=[160,191,128,191]∧need c.val≠0:=by decide +kernel
theorem rowFact5:∀c:Fin 256,c.val=237→bndN c.val=[128,159,128,191]∧need c.val≠0:=by decide +kernel
theorem rowFact6:∀c:Fin 256,225≤c.val→c.val≤239→c.val≠237→bndN c.val=[128,191,128,191]∧need c.val≠0:=by decide +kernel
theorem rowFact7:∀c:Fin 256,c.val=240→bndN c.val=[144,191,128,191,128,191]∧need c.val≠0:=by decide +kernel
theorem rowFact8:∀c:Fin 256,241≤c.val→c.val≤243→bndN c.val=[128,191,128,191,128,191]∧need c.val≠0:=by decide +kernel
theorem rowFact9:∀c:Fin 256,c.val=244→bndN c.val=[128,143,128,191,128,191]∧need c.val≠0:=by decide +kernel
theorem rowFact10:∀c:Fin 256,245≤c.val→bndN c.val=[]∧need c.val=0:=by decide +kernel
set_option maxRecDepth 100000 in
set_option maxHeartbeats 1000000 in
theorem row_any (c:Nat) (hc:c < 256) (w:World):Calls Tryd.prog 61 #[.int .u8 c] w (Bounds w c):=by
 have f1:=rowFact1 ⟨c,hc⟩
 have f2:=rowFact2 ⟨c,hc⟩
 have f3:=rowFact3 ⟨c,hc⟩
 have f4:=rowFact4 ⟨c,hc⟩
 have f5:=rowFact5 ⟨c,hc⟩
 have f6:=rowFact6 ⟨c,hc⟩
 have f7:=rowFact7 ⟨c,hc⟩
 have f8:=rowFact8 ⟨c,hc⟩
 have f9:=rowFact9 ⟨c,hc⟩
 have f10:=rowFact10 ⟨c,hc⟩
 simp only at f1 f2 f3 f4 f5 f6 f7 f8 f9 f10
 by_cases e1:c=224
 ·have F:=Lib.hid (f4 e1)
  clear f1 f2 f3 f4 f5 f6 f7 f8 f9 f10
  subst e1
  go_enter Tryd.func61,Tryd.ntmps61
  go_wp2
  go_ret2
  exact bounds_new F.out.1 rfl F.out.2
 by_cases e2:c=237
 ·have F:=Lib.hid (f5 e2)
  clear f1 f2 f3 f4 f5 f6 f7 f8 f9 f10
  subst e2
  go_enter Tryd.func61,Tryd.ntmps61
  go_wp2
  go_ret2
  exact bounds_new F.out.1 rfl F.out.2
 by_cases e3:c=240
 ·have F:=Lib.hid (f7 e3)
  clear f1 f2 f3 f4 f5 f6 f7 f8 f9 f10
  subst e3
  go_enter Tryd.func61,Tryd.ntmps61
  go_wp2
  go_ret2
  exact bounds_new F.out.1 rfl F.out.2
 by_cases e4:c=244
 ·have F:=Lib.hid (f9 e4)
  clear f1 f2 f3 f4 f5 f6 f7 f8 f9 f10
  subst e4
  go_enter Tryd.func61,Tryd.ntmps61
  go_wp2
  go_ret2
  exact bounds_new F.out.1 rfl F.out.2
 have b1:((c:Int) == 224)=false:=by simp;omega
 have b2:((c:Int) == 237)=false:=by simp;omega
 have b3:((c:Int) == 240)=false:=by simp;omega
 have b4:((c:Int) == 244)=false:=by simp;omega
 have F1:=Lib.hid f1;have F2:=Lib.hid f2;have F3:=Lib.hid f3;have F6:=Lib.hid f6;have F8:=Lib.hid f8;have F10:=Lib.hid f10;have E2:=Lib.hid e2
 clear f1 f2 f3 f4 f5 f6 f7 f8 f9 f10 e1 e2 e3 e4
 have hcase:(c≤127)∨(128≤c∧c≤193)∨(194≤c∧c≤223)∨(224≤c∧c≤224)∨(225≤c∧c≤239)∨(240≤c∧c≤240)∨(241≤c∧c≤243)∨(244≤c∧c≤244)∨245≤c:=by omega
 rcases hcase with h | ⟨h,h'⟩ | ⟨h,h'⟩ | ⟨h,h'⟩ | ⟨h,h'⟩ | ⟨h,h'⟩ | ⟨h,h'⟩ | ⟨h,h'⟩ | h
 ·go_enter Tryd.func61,Tryd.ntmps61
  go_wp2
  go_ret2
  exact bounds_nil (F1.out h).1 (decide_eq_true (F1.out h).2).symm
 ·go_enter Tryd.func61,Tryd.ntmps61
  go_wp2
  go_ret2
  exact bounds_nil (F2.out h h').1 (by simp [(F2.out h h').2])
 ·go_enter Tryd.func61,Tryd.ntmps61
  go_wp2
  go_ret2
  exact bounds_new (F3.out h h').1 rfl (F3.out h h').2
 ·simp at b1;omega
 ·go_enter Tryd.func61,Tryd.ntmps61
  go_wp2
  go_ret2
  exact bounds_new (F6.out h h' E2.out).1 rfl (F6.out h h' E2.out).2
 ·simp at b3;omega
 ·go_enter Tryd.func61,Tryd.ntmps61
  go_wp2
  go_ret2
  exact bounds_new (F8.out h h').1 rfl (F8.out h h').2
 ·simp at b4;omega
 ·go_enter Tryd.func61,Tryd.ntmps61
  go_wp2
  go_ret2
  exact bounds_nil (F10.out h).1 (by simp [(F10.out h).2])
end Go.Proofs.YtdngaddggcmjgaaDoor.Utf
namespace Go.Proofs.YtdngaddggcmjgaaDoor.Utf
open Go.RowKit
set_option maxRecDepth 100000
def pb (x k:Nat):Nat:=if k=1 then lo x else 128
def qb (x k:Nat):Nat:=if k=1 then hi x else 191
theorem bnd_len:∀x:Fin 256,need x.val≠0→(bndN x.val).length=2*(need x.val - 1):=by decide +kernel
theorem bnd_at:∀x:Fin 256,∀k:Fin 4,1≤k.val→k.val < need x.val→(bndN x.val)[2*k.val - 2]? = some (pb x.val k.val)∧(bndN x.val)[2*k.val - 1]? = some (qb x.val k.val):=by decide +kernel
theorem pb_lt (x k:Nat):pb x k≤255:=by unfold pb lo;repeat (split <;> try omega)
theorem qb_lt (x k:Nat):qb x k≤255:=by unfold qb hi;repeat (split <;> try omega)
theorem run_at {l:List UInt8} {x k n:Nat} (hk:k < l.length) (h0:1≤k) (h1:k < n) (h2:pb x k≤l[k].toNat) (h3:l[k].toNat≤qb x k) :
  run k n (pb x k) (qb x k) (l.drop k)=run (k+1) n (pb x (k+1)) (qb x (k+1)) (l.drop (k+1)):=by
 rw [run_go hk h1 h2 h3]
 have e:¬k+1=1:=by omega
 unfold pb qb
 rw [if_neg e,if_neg e]
def Piece (w:World) (d:List UInt8) (e:Ending) (w':World):Prop :=
 e=.returned (.tuple #[.int .i32 (rune d),.int .i64 (wid d),.bool (more d)])∧Below w.heap.size w w'
theorem below_drewN {B:Nat} {u v:World} (h:Below B u v) (k:Nat):Below B u (v.drewN k):=⟨h.os,h.tape,h.output,h.size,h.block⟩
theorem piece_bad {w w':World} {d:List UInt8} {N M a k n:Nat} (hM:M=wid d) (hN:nd d=N) (hk:k=M) (hlt:k < N) (hl:d.length=n - a) (ha:a < n) (hb:Below w.heap.size w w') :
  Piece w d (.returned (.tuple #[.int .i32 65533,.int .i64 k,.bool ((a:Int)+(k:Int) == (n:Int))])) w':=by
 subst hk hM hN
 refine ⟨?_,hb⟩
 have h1:rune d=65533:=by unfold rune;rw [if_neg (by omega)]
 have h2:((a:Int)+(wid d:Int) == (n:Int))=more d:=by
  rw [Bool.eq_iff_iff,more_iff,beq_iff_eq]
  constructor
  ·intro h;exact ⟨hlt,by omega⟩
  ·intro ⟨_,h⟩;omega
 rw [h1,h2];rfl
theorem piece_good {w w':World} {d:List UInt8} {M N J k:Nat} (hM:M=wid d) (hN:nd d=N) (hk:k=M) (hkN:k=N) (hJ:joined (d.take k)=J) (hb:Below w.heap.size w w') :
  Piece w d (.returned (.tuple #[.int .i32 J,.int .i64 k,.bool false])) w':=by
 subst hk hM hJ
 refine ⟨?_,hb⟩
 have h1:rune d=joined (d.take (wid d)):=by unfold rune;rw [if_pos (by omega)]
 have h2:more d=false:=by unfold more;rw [decide_eq_false (by omega)];rfl
 rw [h1,h2]
set_option maxHeartbeats 4000000 in
theorem at_any (A:Option Addr) (l:List UInt8) (n c a:Nat) (w:World) (hr:Rd w w.heap.size A (bys l)) (hn:l.length=n) (ha:a < n) (hb:n≤1099511627776) :
  Calls Tryd.prog 44 #[.slice A n c,.int .i64 a] w (Piece w (l.drop a)):=by
 obtain ⟨b,o,rfl,hbH⟩:=hr.form (by rw [bys_len];omega)
 have hrd:Rd w w.heap.size (some ⟨b,o+a,none⟩) (bys (l.drop a)):=by have:=hr.drop_ a;rwa [bys_drop] at this
 have hdl:(l.drop a).length=n - a:=by rw [rest_len,hn]
 obtain ⟨d,hd⟩:∃d,d=l.drop a:=⟨_,rfl⟩
 rw [←hd] at hrd hdl ⊢
 clear hd hr hn
 cases d with
 | nil=>simp at hdl;omega
 | cons q t =>
 have hcell0:w.cell? ⟨b,o+a,none⟩=some (.int .u8 q.toNat):=hrd.byte (k:=0) (by simp)
 have hq:q.toNat < 256:=q.toNat_lt
 obtain ⟨x,hx⟩:∃x,x=q.toNat:=⟨_,rfl⟩
 have hrow:=row_any q.toNat hq w
 rw [←hx] at hcell0 hq hrow
 have hwid:wid (q :: t)=run 1 (need x) (pb x 1) (qb x 1) ((q :: t).drop 1):=by subst hx;rfl
 have hnd:nd (q :: t)=need x:=by subst hx;rfl
 have HR:=Lib.hid hrow
 have HX:=Lib.hid hx
 clear hx hrow
 have hpos:(0:Int)≤(a:Int):=by omega
 by_cases hz:need x=0
 ·have hw1:wid (q :: t)=1:=by rw [hwid,hz];exact run_zero _ _ _ _ _ (by omega)
  have hF:rune (q :: t)=65533:=by unfold rune;rw [if_neg (by rw [hw1,hnd];omega)]
  have hM:more (q :: t)=false:=by unfold more;rw [hw1,hnd,hz];simp
  have hdec:decide (need x≠0)=false:=by simp [hz]
  have HF:=Lib.hid hF;have HM:=Lib.hid hM;have HW:=Lib.hid hw1;have HD:=Lib.hid hdec
  clear hF hM hw1 hdec hz hnd hwid
  go_enter Tryd.func44,Tryd.ntmps44
  go_wp2_with fail
  refine HR.out.mono ?_
  rintro e w1 ⟨B',m,rfl,hm,hrb,hbel⟩
  rw [HD.out]
  go_wp2
  go_ret3
  exact ⟨by rw [HF.out,HM.out,HW.out];rfl,hbel⟩
 ·have hdec:decide (need x≠0)=true:=by simp [hz]
  have hbl:=bnd_len ⟨x,hq⟩ hz
  have hba:=bnd_at ⟨x,hq⟩
  have hn4:=need_le x
  have hNn:=run_need t 1 (need x) (pb x 1) (qb x 1) (by omega)
  simp only at hbl hba
  have HW:=Lib.hid hwid;have HD:=Lib.hid hdec;have HBA:=Lib.hid hba;have HND:=Lib.hid hnd
  clear hwid hdec hba hnd hNn
  obtain ⟨N,hN⟩:∃N,N=need x:=⟨_,rfl⟩
  have HN:=Lib.hid hN
  rw [←hN] at hbl hn4 hz
  clear hN
  have HBL:=Lib.hid hbl
  clear hbl
  obtain ⟨M,hM⟩:∃M,M=wid (q :: t):=⟨_,rfl⟩
  have HM:=Lib.hid hM
  clear hM
  have HRD:=Lib.hid hrd
  clear hrd
  go_enter Tryd.func44,Tryd.ntmps44
  go_wp2_with fail
  refine HR.out.mono ?_
  rintro e w1 ⟨B',m,rfl,hm,hrb,hbel⟩
  rw [HD.out]
  have hm2:m≤2*(N - 1)∧2*(N - 1)≤m:=by have:=HBL.out;omega
  have HMm:=Lib.hid hm
  obtain ⟨hm3,hm4⟩:=hm2
  clear hm
  have hrd1:Rd w1 w.heap.size (some ⟨b,o+a,none⟩) (bys (q :: t)):=HRD.out.below hbel
  have hcell1:w1.cell? ⟨b,o+a,none⟩=some (.int .u8 x):=(hbel.cell (p:=⟨b,o+a,none⟩) hbH).trans hcell0
  clear hcell0
  go_wp2
  go_loopw [9] (fun i wr=>∃k:Nat,1≤k∧k≤N∧k≤n - a∧Hid (run k N (pb x k) (qb x k) ((q :: t).drop k)=M)∧i=.int .i64 k∧Below w1.heap.size w1 wr)
   (fun i _=>N - (intOf i).toNat)
  case atStart=>exact ⟨1,Nat.le_refl _,by omega,by omega,Lib.hid (by rw [HM.out,HW.out,HN.out]),rfl,Below.refl _ _⟩
  case round =>
   obtain ⟨k,hk1,hkN,hka,HRun,rfl,hbr⟩:=hrel
   have hcr:wr.cell? ⟨b,o+a,none⟩=some (.int .u8 x):=(hbr.cell (p:=⟨b,o+a,none⟩) (Nat.lt_of_lt_of_le hbH hbel.size)).trans hcell1
   by_cases hgo:k < N∧k < n - a
   ·obtain ⟨h1,h2⟩:=hgo
    have hlen:=hdl
    have hkl:k < (q :: t).length:=by omega
    have hcy:wr.cell? ⟨b,o+(a+k),none⟩=some (.int .u8 (q :: t)[k].toNat):=by
     have h:=(hrd1.more hbel.size).below hbr
     have:=h.byte hkl
     rwa [show o+a+k=o+(a+k) from by omega] at this
    have hbnd:=HBA.out ⟨k,by omega⟩ (by simpa using hk1) (by have:=HN.out;simpa using (show k < need x by omega))
    simp only at hbnd
    obtain ⟨g,og,rfl,hgB⟩:=hrb.form (by rw [u8s_len];have:=HMm.out;omega)
    have hrb2:=hrb.below hbr
    have hm':=HMm.out
    have hcp:wr.cell? ⟨g,og+(2*k - 2),none⟩=some (.int .u8 (pb x k)):=by
     have:=hrb2.u8 (k:=2*k - 2) (by omega)
     rw [this];have e:=hbnd.1;rw [List.getElem?_eq_getElem (by omega)] at e;simp only [Option.some.injEq] at e;rw [e]
    have hcq:wr.cell? ⟨g,og+(2*k - 1),none⟩=some (.int .u8 (qb x k)):=by
     have:=hrb2.u8 (k:=2*k - 1) (by omega)
     rw [this];have e:=hbnd.2;rw [List.getElem?_eq_getElem (by omega)] at e;simp only [Option.some.injEq] at e;rw [e]
    have hy255:(q :: t)[k].toNat < 256:=(q :: t)[k].toNat_lt
    have hrun1:=run_at (x:=x) (n:=N) hkl hk1 h1
    have hrun2:¬(pb x k≤(q :: t)[k].toNat∧(q :: t)[k].toNat≤qb x k)→run k N (pb x k) (qb x k) ((q :: t).drop k)=k:=fun h=>run_end (fun ⟨_,_,h'⟩=>h h')
    obtain ⟨y,hy⟩:∃y,y=(q :: t)[k].toNat:=⟨_,rfl⟩
    have hpl:=pb_lt x k
    have hql:=qb_lt x k
    obtain ⟨P,hP⟩:∃P,P=pb x k:=⟨_,rfl⟩
    obtain ⟨Q,hQ⟩:∃Q,Q=qb x k:=⟨_,rfl⟩
    rw [←hy] at hcy hy255 hrun1 hrun2
    rw [←hP] at hcp hpl hrun1 hrun2
    rw [←hQ] at hcq hql hrun1 hrun2
    have HR1:=Lib.hid hrun1;have HR2:=Lib.hid hrun2;have HP:=Lib.hid hP;have HQ:=Lib.hid hQ;have HM1:=Lib.hid hm';have HDL:=Lib.hid hdl
    clear hrun1 hrun2 hP hQ hm' hy hlen hbnd hdl hkl hrb2
    have e1:IntKind.i64.wrap ((m:Int) / 2)=(m:Int) / 2:=IntWalk.i64_in _ (by omega)
    have e2:IntKind.i64.wrap ((a:Int)+(k:Int))=(a:Int)+(k:Int):=IntWalk.i64_in _ (by omega)
    have d1:decide ((k:Int)≤(m:Int) / 2)=true:=by simp;omega
    have d2:decide ((a:Int)+(k:Int) < (n:Int))=true:=by simp;omega
    by_cases h3:P≤y
    ·have d3:decide ((P:Int)≤(y:Int))=true:=by simp;omega
     by_cases h4:y≤Q
     ·have d4:decide ((y:Int)≤(Q:Int))=true:=by simp;omega
      go_wp2_with fail
      go_quiet (fail)
      go_wp2
      go_roundw
      case rel=>exact ⟨k+1,by omega,by omega,by omega,Lib.hid ((HR1.out h3 h4).symm.trans (by rw [HP.out,HQ.out];exact HRun.out)),by go_num,below_drewN hbr _⟩
      case measure=>simp [intOf];omega
     ·have d4:decide ((y:Int)≤(Q:Int))=false:=by simp;omega
      have HK:=Lib.hid (show k=M from (HR2.out (fun h=>h4 h.2)).symm.trans (by rw [HP.out,HQ.out];exact HRun.out))
      go_wp2_with fail
      go_quiet (fail)
      clear e1 e2
      go_wp2
      go_ret3
      exact piece_bad HM.out (HND.out.trans HN.out.symm) HK.out h1 HDL.out ha (hbel.trans ((below_drewN hbr _).mono hbel.size))
    ·have d3:decide ((P:Int)≤(y:Int))=false:=by simp;omega
     have HK:=Lib.hid (show k=M from (HR2.out (fun h=>h3 h.1)).symm.trans (by rw [HP.out,HQ.out];exact HRun.out))
     go_wp2_with fail
     go_quiet (fail)
     go_wp2
     go_ret3
     exact piece_bad HM.out (HND.out.trans HN.out.symm) HK.out h1 HDL.out ha (hbel.trans ((below_drewN hbr _).mono hbel.size))
   ·have HK:=Lib.hid (show k=M from by rw [←HRun.out];exact (run_end (fun ⟨h,h',_⟩=>hgo ⟨h,by rw [←hdl];exact h'⟩)).symm)
    have HDL:=Lib.hid hdl
    clear hdl
    by_cases h1:k < N
    ·have d1:decide ((k:Int)≤(m:Int) / 2)=true:=by simp;omega
     have d2:decide ((a:Int)+(k:Int) < (n:Int))=false:=by simp;omega
     have d2':¬(a:Int)+(k:Int) < (n:Int):=by omega
     clear hgo
     go_wp2_with fail
     go_quiet (fail)
     go_wp2
     go_ret3
     exact piece_bad HM.out (HND.out.trans HN.out.symm) HK.out h1 HDL.out ha (hbel.trans ((below_drewN hbr _).mono hbel.size))
    ·have e1:IntKind.i64.wrap ((m:Int) / 2)=(m:Int) / 2:=IntWalk.i64_in _ (by omega)
     have d1:decide ((k:Int)≤(m:Int) / 2)=false:=by simp;omega
     have hkn:k=N:=by omega
     have HKN:=Lib.hid hkn
     clear hgo hkn
     by_cases hk1':k=1
     ·subst hk1'
      have HJ:=Lib.hid (show joined ((q :: t).take 1)=x by simp [joined,joinTo,lead,HX.out])
      have d1':decide ((1:Int)≤(m:Int) / 2)=false:=d1
      have d1'':¬(1:Int)≤(m:Int) / 2:=by simpa using d1'
      clear d1
      go_wp2_with fail
      go_quiet (fail)
      go_wp2
      go_ret3
      exact piece_good HM.out (HND.out.trans HN.out.symm) HK.out HKN.out HJ.out (hbel.trans ((below_drewN hbr _).mono hbel.size))
     ·have hM1:M=wid (q :: t):=HM.out
      have hwl:=wid_le (q :: t)
      have hklen:k≤t.length+1:=by have:=HK.out;simp only [List.length_cons] at hwl;omega
      have hs:(t.take (k - 1)).length=k - 1:=by rw [List.length_take];omega
      have hjoin:joined ((q :: t).take k)=joinTo (lead x k) (t.take (k - 1)):=by
       obtain ⟨k',rfl⟩:∃k',k=k'+1:=⟨k - 1,by omega⟩
       rw [List.take_succ_cons]
       simp only [joined]
       rw [Nat.add_sub_cancel] at hs ⊢
       rw [hs,←HX.out]
      have hcs:∀i (h:i < (t.take (k - 1)).length),∀u,Below w1.heap.size w1 u→u.cell? ⟨b,o+(a+(i+1)),none⟩=some (.int .u8 (t.take (k - 1))[i].toNat):=by
       intro i h u hu
       have hd1:=(hrd1.more hbel.size).below hu
       have:=hd1.byte (k:=i+1) (by simp only [List.length_cons];omega)
       rw [show o+(a+(i+1))=o+a+(i+1) from by omega,this]
       simp
      obtain ⟨s,hs'⟩:∃s,s=t.take (k - 1):=⟨_,rfl⟩
      rw [←hs'] at hs hjoin hcs
      obtain ⟨J,hJ⟩:∃J,J=joinTo (lead x k) s:=⟨_,rfl⟩
      rw [←hJ] at hjoin
      have HJ:=Lib.hid hJ;have HJo:=Lib.hid hjoin;have HS:=Lib.hid hs;have HCS:=Lib.hid hcs
      clear hs' hs hjoin hcs hJ hM1 hwl
      obtain ⟨b1,b2,b3,b4⟩:=need_bounds ⟨x,hq⟩
      simp only [←HN.out,←HKN.out] at b1 b2 b3 b4
      have hcase:(k=2∧194≤x∧x≤223)∨(k=3∧224≤x∧x≤239)∨(k=4∧240≤x∧x≤244):=by omega
      clear b1 b2 b3 b4
      rcases hcase with ⟨rfl,h3,h4⟩ | ⟨rfl,h3,h4⟩ | ⟨rfl,h3,h4⟩
      all_goals
       have HL:Hid (lead x s.length.succ < 64∧(lead x s.length.succ+1)*64 ^ s.length≤2097152):=by
        rw [HS.out,lead_ne _ _ (by omega)];simp only [Nat.reduceAdd,Nat.reduceSub,Nat.reducePow,Nat.succ_eq_add_one];exact ⟨by omega,by omega⟩
       first | rw [show ((2:Nat):Int)=2 from rfl] at d1 | rw [show ((3:Nat):Int)=3 from rfl] at d1 | rw [show ((4:Nat):Int)=4 from rfl] at d1
       have d1'':=of_decide_eq_false d1
       go_wp2_with fail
       go_quiet (fail)
       go_wp2_with fail
       go_quiet (fail)
       go_wp2_with fail
       go_loop [10,11] (fun r i=>∃j z:Nat,j≤3∧Hid (j≤s.length)∧Hid (joinTo z (s.drop j)=J)∧Hid ((z+1)*64 ^ (s.length - j)≤2097152)∧z≤2097151∧r=.int .i32 z∧i=.int .i64 ((j:Int)+1))
        (fun _ i=>5 - (intOf i).toNat)
       case atStart =>
        refine ⟨0,lead x s.length.succ,by omega,Nat.zero_le _,Lib.hid (by rw [HS.out];exact HJ.out.symm),HL.out.2,by have:=HL.out.1;omega,?_,rfl⟩
        rw [HS.out,lead_ne _ _ (by omega)];simp only [Nat.reduceAdd,Nat.reduceSub,Nat.reducePow,Nat.succ_eq_add_one];congr 1
       case round =>
        obtain ⟨j,z,hj,HJL,HRn,HB,hz1,rfl,rfl⟩:=hrel
        by_cases h1:j < s.length
        ·have hcell:=HCS.out j h1 wr hbr
         have hlt:s[j].toNat < 256:=s[j].toNat_lt
         have HG:=Lib.hid (show joinTo (z*64+s[j].toNat % 64) (s.drop (j+1))=J from (joinTo_go h1).symm.trans HRn.out)
         obtain ⟨g1,g2⟩:=grow_go (y:=s[j].toNat) h1 HB.out
         have HB':=Lib.hid g2
         have hk1:=h1
         rw [HS.out] at hk1
         clear g2
         obtain ⟨y,hy⟩:∃y,y=s[j].toNat:=⟨_,rfl⟩
         rw [←hy] at hcell hlt HG HB'
         have HK1:Hid (j+1≤s.length):=h1
         clear hy h1 HRn HB HL HJ d1
         go_wp2
         go_round
         case rel=>exact ⟨j+1,by omega,HK1,z*64+y % 64,HG,HB',by omega,by go_num,by go_num⟩
         case measure=>simp [intOf];omega
        ·have hjs:j=s.length:=by have:=HJL.out;omega
         have HE2:=Lib.hid (show z=J by rw [←HRn.out,List.drop_eq_nil_of_le (by omega)];rfl)
         rw [HS.out] at hjs
         simp only [Nat.reduceSub] at hjs
         subst hjs
         clear HRn HB HL HJ d1
         go_wp2
         go_ret3
         exact piece_good HM.out (HND.out.trans HN.out.symm) HK.out HKN.out (HJo.out.trans HE2.out.symm) (hbel.trans ((below_drewN hbr _).mono hbel.size))
end Go.Proofs.YtdngaddggcmjgaaDoor.Utf
namespace Go.Proofs.YtdngaddggcmjgaaDoor.Utf
open Go.RowKit
set_option maxRecDepth 100000
def Pts (w:World) (ps:List Pt) (e:Ending) (w':World):Prop :=
 ∃v,e=.returned v∧w'.ownsRow w.heap.size 51 3 v ps.length (pts ps)∧Below w.heap.size w w'
theorem pts_of {w w':World} {v:Value} {H:Nat} {ps qs:List Pt} (hH:H=w.heap.size) (h1:ps=qs) (hown:w'.ownsRow H 51 3 v ps.length (pts ps)) (hb:Below H w w'):Pts w qs (.returned v) w':=by
 subst hH h1
 exact ⟨v,rfl,hown,hb⟩
theorem own_below {w w':World} {base:Nat} {e:TypeId} {size:Nat} {v:Value} {n:Nat} {xs:List Value} (h:w.ownsRow base e size v n xs) (hb:Below w.heap.size w w'):w'.ownsRow base e size v n xs :=
 h.kept (row:=none) ⟨hb.os,hb.tape,hb.output,hb.size,fun k hk _=>hb.block k hk⟩ (by cases v.ownBlock <;> simp)
set_option maxHeartbeats 2000000 in
theorem rdec_any (A:Option Addr) (l:List UInt8) (n c:Nat) (opn:Bool) (w:World) (hr:Rd w w.heap.size A (bys l)) (hn:l.length=n) (hb:n≤1099511627776) :
  Calls Tryd.prog 27 #[.slice A n c,.bool opn] w (Pts w (dec opn 0 l)):=by
 obtain ⟨i0,hi,hz0,hz1,hz2⟩:=info_parts infoPt
 have HN:=Lib.hid hn
 clear hn
 obtain ⟨H,hH⟩:∃H,H=w.heap.size:=⟨_,rfl⟩
 rw [←hH] at hr
 have HH:=Lib.hid hH
 clear hH
 go_enter Tryd.func27,Tryd.ntmps27
 go_wp2
 go_loopw [5,6] (fun v i wr=>∃(k:Nat) (ps:List Pt),k≤n∧i=.int .i64 k∧wr.ownsRow H 51 3 v ps.length (pts ps)∧Hid (ps++dec opn k (l.drop k)=dec opn 0 l)∧ps.length≤k∧Below H w wr)
  (fun _ i _=>n - (intOf i).toNat)
 case atStart=>exact ⟨0,[],Nat.zero_le _,rfl,World.ownsRow_nil _ _ _ _,Lib.hid (by simp),Nat.le_refl _,Below.refl _ _⟩
 case round =>
  obtain ⟨k,ps,hk,rfl,hown,HD,hpk,hbel⟩:=hrel
  have hsz:H≤wr.heap.size:=by have:=hbel.size;rw [HH.out];exact this
  by_cases hlt:k < n
  ·have hat:=at_any A l n c k wr ((hr.below hbel).more hsz) HN.out hlt hb
   have hdl:(l.drop k).length=n - k:=by rw [rest_len,HN.out]
   have hdne:l.drop k≠[]:=by intro e;rw [e] at hdl;simp at hdl;omega
   have hw1:=wid_pos hdne
   have hw2:=wid_le (l.drop k)
   have hru:=rune_lt (l.drop k)
   have hw4:=wid_four (l.drop k)
   have hst:(opn && more (l.drop k))=true→ps=dec opn 0 l:=fun h=>by rw [←HD.out,dec_cons opn k hdne,if_pos h,List.append_nil]
   have hgo:(opn && more (l.drop k))=false→ps++[⟨rune (l.drop k),k,wid (l.drop k)⟩]++dec opn (k+wid (l.drop k)) (l.drop (k+wid (l.drop k)))=dec opn 0 l:=fun h=>by
    rw [←HD.out,dec_step opn k hdne h,List.drop_drop,List.append_assoc];rfl
   rw [hdl] at hw2
   unfold Piece at hat
   obtain ⟨R,hR⟩:∃R,R=rune (l.drop k):=⟨_,rfl⟩
   obtain ⟨W,hW⟩:∃W,W=wid (l.drop k):=⟨_,rfl⟩
   obtain ⟨mo,hmo⟩:∃mo,mo=more (l.drop k):=⟨_,rfl⟩
   rw [←hR] at hat hgo hru
   rw [←hW] at hat hgo hw1 hw2 hw4
   rw [←hmo] at hat hgo hst
   have HAT:=Lib.hid hat;have HST:=Lib.hid hst;have HGO:=Lib.hid hgo
   clear hR hW hmo hat hst hgo hdne hdl HD
   have hpt:pts (ps++[⟨R,k,W⟩])=pts ps++[.int .i32 R,.int .i64 k,.int .i64 W]:=by rw [pts_append];rfl
   have HP:=Lib.hid hpt
   clear hpt
   cases hom:(opn && mo) with
   | true =>
    rw [Bool.and_eq_true] at hom
    obtain ⟨rfl,rfl⟩:=hom
    go_wp2_with (first
     | (go_at_call 44;refine HAT.out.mono ?_;rintro e w1 ⟨rfl,hb1⟩;have hown1:=own_below hown hb1;have hsz1:=hb1.size))
    go_ret
    exact pts_of HH.out (HST.out rfl) hown1 (hbel.trans (hb1.mono hsz))
   | false =>
    have HF:=Lib.hid hom
    have hcase:opn=false∨(opn=true∧mo=false):=by cases opn <;> simp_all
    clear hom
    rcases hcase with rfl | ⟨rfl,rfl⟩
    all_goals
     go_wp2_with (first
      | (go_at_call 44;refine HAT.out.mono ?_;rintro e w1 ⟨rfl,hb1⟩;have hown1:=own_below hown hb1;have hsz1:=hb1.size)
      | (at_builtin;refine wpList_append_rd _ rfl (.tmp 26) (.tmp 31) _ rfl H 51 i0 _ 3 24 Tryd.underlying48 hi hz0 hz1 hz2 rfl (by decide) _ _ _ rfl (hown1.alloc _) _ (some ⟨w1.heap.size,0,none⟩) 1 1 [.int .i32 R,.int .i64 k,.int .i64 W] rfl rfl (rd_new _ _ [.int .i32 R,.int .i64 k,.int .i64 W] _ (by simp)) one3 (by unfold maxLen;omega) (by omega) (by simp;omega) ?_;intro v2 w2 hown2 hgr2 hat2))
     go_roundw
     case rel=>exact ⟨k+W,ps++[⟨R,k,W⟩],by omega,by go_num,by rw [HP.out,List.length_append];exact hown2,Lib.hid (HGO.out HF.out),by simp;omega,((hbel.trans (hb1.mono hsz)).alloc (by omega) _).grown hgr2 (by simp;omega) (fun g hg=>(hown1.lt g hg).1)⟩
     case measure=>simp [intOf];omega
  ·have hnil:l.drop k=[]:=List.drop_eq_nil_of_le (by have:=HN.out;omega)
   have F1:=Lib.hid (show ps=dec opn 0 l by rw [←HD.out,hnil,dec_nil,List.append_nil])
   clear HD hnil
   go_wp2
   go_ret
   exact pts_of HH.out F1.out hown hbel
end Go.Proofs.YtdngaddggcmjgaaDoor.Utf
namespace Go.Proofs.YtdngaddggcmjgaaDoor.Utf
theorem run_stop (c:UInt8) (hc:c.toNat < 128) (l:List UInt8):∀k n a b,128≤a→run k n a b l=k+l.length→run k n a b (l++[c])=k+l.length:=by
 induction l with
 | nil =>
  intro k n a b ha _
  show run k n a b [c]=k
  unfold run
  rw [if_neg (by omega)]
 | cons x t ih =>
  intro k n a b ha h
  simp only [List.cons_append,run] at h ⊢
  split
  ·rename_i hx
   rw [if_pos hx] at h
   have:=ih (k+1) n 128 191 (Nat.le_refl _) (by simp only [List.length_cons] at h;omega)
   rw [this];simp only [List.length_cons];omega
  ·rename_i hx
   rw [if_neg hx] at h
   simp only [List.length_cons] at h
   omega
theorem lo_ge (c:Nat):128≤lo c:=by unfold lo;repeat (split <;> try omega)
theorem wid_stop (c:UInt8) (hc:c.toNat < 128) {l:List UInt8} (h:wid l=l.length):wid (l++[c])=l.length∨l=[]:=by
 cases l with
 | nil=>exact .inr rfl
 | cons x t =>
  left
  simp only [wid,List.length_cons,List.cons_append] at h ⊢
  have:=run_stop c hc t 1 (need x.toNat) (lo x.toNat) (hi x.toNat) (lo_ge _) (by omega)
  rw [this];omega
theorem one_piece (c:UInt8) (hc:c.toNat < 128) (k:Nat):dec false k [c]=[⟨c.toNat,k,1⟩]:=by
 have hn:need c.toNat=1:=by unfold need;rw [if_pos hc]
 have hw:wid [c]=1:=rfl
 rw [dec_step false k (by simp) (by simp),hw]
 have hr:rune [c]=c.toNat:=by unfold rune;rw [hw];simp only [nd,hn,if_true];simp [joined,joinTo,lead]
 rw [hr];rfl
theorem dec_ascii (c:UInt8) (hc:c.toNat < 128) (l:List UInt8):dec false 0 (l++[c])=dec false 0 l++[⟨c.toNat,l.length,1⟩]:=by
 have hle:=eat_le l
 rw [dec_append,dec_close 0 l]
 rcases rest_more l with hr | hr
 ·have hlen:l.length - eat l=0:=by have:=congrArg List.length hr;simpa using this
  rw [hr,if_pos hlen,List.append_nil,List.nil_append,one_piece c hc]
  rw [show 0+eat l=l.length from by omega]
 ·obtain ⟨h1,h2,h3,h4⟩:=more_short hr
  have hlen:(l.drop (eat l)).length=l.length - eat l:=List.length_drop
  have hp:l.length - eat l≠0:=by
   intro h0
   exact h4 (List.eq_nil_of_length_eq_zero (by omega))
  rw [if_neg hp]
  have hw:wid (l.drop (eat l)++[c])=(l.drop (eat l)).length:=by
   rcases wid_stop c hc h2 with h | h
   ·exact h
   ·exact absurd h h4
  have hn:nd (l.drop (eat l)++[c])=nd (l.drop (eat l)):=nd_append _ h4
  have hru:rune (l.drop (eat l)++[c])=65533:=by unfold rune;rw [if_neg (by rw [hw,hn];omega)]
  rw [dec_step false _ (by simp) (by simp),hw,hru,List.drop_left,one_piece c hc,hlen,List.append_assoc]
  rw [show 0+eat l+(l.length - eat l)=l.length from by omega]
  rfl
theorem ofNat_lt {n:Nat} (h:n < 256):(UInt8.ofNat n).toNat=n:=by simp [UInt8.toNat_ofNat'];omega
def IsPt (q:Nat):Prop:=q≤1114111∧(q < 55296∨57343 < q)
theorem piece_enc {q:Nat} (h:IsPt q) (t:List UInt8):wid (encN q++t)=(encN q).length∧nd (encN q++t)=(encN q).length∧joined (encN q)=q∧(encN q).length≠0:=by
 obtain ⟨h1,h2⟩:=h
 unfold encN
 by_cases c1:q < 128
 ·rw [if_pos c1]
  have e:=ofNat_lt (n:=q) (by omega)
  have hn:need q=1:=by unfold need;rw [if_pos c1]
  simp only [List.cons_append,List.nil_append,wid,nd,e,hn,List.length_cons,List.length_nil,joined,joinTo,lead]
  exact ⟨run_zero _ _ _ _ _ (by omega),by simp,by simp,by simp⟩
 rw [if_neg c1]
 by_cases c2:q < 2048
 ·rw [if_pos c2]
  have e1:=ofNat_lt (n:=192+q / 64) (by omega)
  have e2:=ofNat_lt (n:=128+q % 64) (by omega)
  have hn:need (192+q / 64)=2:=by unfold need;rw [if_neg (by omega),if_neg (by omega),if_pos (by omega)]
  have hl:lo (192+q / 64)=128:=by unfold lo;rw [if_neg (by omega),if_neg (by omega)]
  have hh:hi (192+q / 64)=191:=by unfold hi;rw [if_neg (by omega),if_neg (by omega)]
  simp only [List.cons_append,List.nil_append,wid,nd,e1,hn,hl,hh,List.length_cons,List.length_nil,joined,joinTo,lead,e2]
  refine ⟨?_,by simp,by rw [if_neg (by omega)];simp only [Nat.reduceAdd,Nat.reduceSub,Nat.reducePow];omega,by simp⟩
  unfold run
  rw [e2,if_pos (by omega)]
  exact run_zero _ _ _ _ _ (by omega)
 rw [if_neg c2]
 by_cases c3:q < 65536
 ·rw [if_pos c3]
  have e1:=ofNat_lt (n:=224+q / 4096) (by omega)
  have e2:=ofNat_lt (n:=128+q / 64 % 64) (by omega)
  have e3:=ofNat_lt (n:=128+q % 64) (by omega)
  have hn:need (224+q / 4096)=3:=by unfold need;rw [if_neg (by omega),if_neg (by omega),if_neg (by omega),if_pos (by omega)]
  have hl:lo (224+q / 4096)≤128+q / 64 % 64:=by
   unfold lo;split;· omega
   ·rw [if_neg (by omega)];omega
  have hh:128+q / 64 % 64≤hi (224+q / 4096):=by
   unfold hi;split;· omega
   ·rw [if_neg (by omega)];omega
  simp only [List.cons_append,List.nil_append,wid,nd,e1,hn,List.length_cons,List.length_nil,joined,joinTo,lead,e2,e3]
  refine ⟨?_,by simp,by rw [if_neg (by omega)];simp only [Nat.reduceAdd,Nat.reduceSub,Nat.reducePow];omega,by simp⟩
  unfold run
  rw [e2,if_pos ⟨by omega,hl,hh⟩]
  unfold run
  rw [e3,if_pos (by omega)]
  exact run_zero _ _ _ _ _ (by omega)
 rw [if_neg c3]
 have e1:=ofNat_lt (n:=240+q / 262144) (by omega)
 have e2:=ofNat_lt (n:=128+q / 4096 % 64) (by omega)
 have e3:=ofNat_lt (n:=128+q / 64 % 64) (by omega)
 have e4:=ofNat_lt (n:=128+q % 64) (by omega)
 have hn:need (240+q / 262144)=4:=by unfold need;rw [if_neg (by omega),if_neg (by omega),if_neg (by omega),if_neg (by omega),if_pos (by omega)]
 have hl:lo (240+q / 262144)≤128+q / 4096 % 64:=by unfold lo;rw [if_neg (by omega)];split <;> omega
 have hh:128+q / 4096 % 64≤hi (240+q / 262144):=by unfold hi;rw [if_neg (by omega)];split <;> omega
 simp only [List.cons_append,List.nil_append,wid,nd,e1,hn,List.length_cons,List.length_nil,joined,joinTo,lead,e2,e3,e4]
 refine ⟨?_,by simp,by rw [if_neg (by omega)];simp only [Nat.reduceAdd,Nat.reduceSub,Nat.reducePow];omega,by simp⟩
 unfold run
 rw [e2,if_pos ⟨by omega,hl,hh⟩]
 unfold run
 rw [e3,if_pos (by omega)]
 unfold run
 rw [e4,if_pos (by omega)]
 exact run_zero _ _ _ _ _ (by omega)
theorem dec_enc1 {q:Nat} (h:IsPt q) (t:List UInt8) (k:Nat):dec false k (encN q++t)=⟨q,k,(encN q).length⟩ :: dec false (k+(encN q).length) t:=by
 obtain ⟨h1,h2,h3,h4⟩:=piece_enc h t
 have hne:encN q++t≠[]:=by intro e;have:=congrArg List.length e;rw [List.length_append,List.length_nil] at this;omega
 rw [dec_step false k hne (by simp),h1,List.drop_left]
 have:rune (encN q++t)=q:=by unfold rune;rw [if_pos (by rw [h1,h2]),h1,List.take_left,h3]
 rw [this]
theorem fix_pt (r:Int):IsPt (fix r):=by
 unfold fix IsPt
 split
 ·rename_i h;have:=(vld_iff r).1 h;omega
 ·omega
end Go.Proofs.YtdngaddggcmjgaaDoor.Utf
namespace Go.Proofs.YtdngaddggcmjgaaDoor.Utf
theorem dec_enc (l:List Int):∀k,(dec false k (enc l)).length=l.length∧∀i (h:i < l.length),((dec false k (enc l))[i]?).map Pt.r=some (fix l[i]):=by
 induction l with
 | nil=>intro k;exact ⟨rfl,fun i h=>absurd h (by simp)⟩
 | cons r t ih =>
  intro k
  have he:enc (r :: t)=encN (fix r)++enc t:=by simp [enc]
  rw [he,dec_enc1 (fix_pt r)]
  obtain ⟨h1,h2⟩:=ih (k+(encN (fix r)).length)
  refine ⟨by simp only [List.length_cons];rw [h1],fun i h=>?_⟩
  cases i with
  | zero=>rfl
  | succ i=>simpa using h2 i (by simpa using h)
theorem by_eq {n:Nat} {x:UInt8} (h:n=x.toNat):UInt8.ofNat n=x:=by
 subst h;simp
theorem wf_piece {l:List UInt8} (hne:l≠[]) (hw:wid l=nd l):IsPt (joined (l.take (wid l)))∧encN (joined (l.take (wid l)))=l.take (wid l):=by
 cases l with
 | nil=>exact absurd rfl hne
 | cons c t =>
  obtain ⟨b1,b2,b3,b4⟩:=need_bounds ⟨c.toNat,c.toNat_lt⟩
  have h4:=need_le c.toNat
  have hp:=wid_pos hne
  have hle:=wid_le (c :: t)
  rw [hw] at hp hle ⊢
  simp only [nd,wid,List.length_cons] at hw hp hle b1 b2 b3 b4 ⊢
  have hcase:need c.toNat=1∨need c.toNat=2∨need c.toNat=3∨need c.toNat=4:=by omega
  rcases hcase with e | e | e | e
  ·rw [e]
   have:=b1 e
   simp only [List.take_succ_cons,List.take_zero,joined,joinTo,lead,List.length_nil,Nat.zero_add,if_true]
   refine ⟨by unfold IsPt;omega,?_⟩
   unfold encN
   rw [if_pos this,by_eq rfl]
  ·have hb:=b2 e
   rw [e] at hw hle ⊢
   match t,hle with
   | x :: t',_ =>
    have hx:lo c.toNat≤x.toNat∧x.toNat≤hi c.toNat:=by
     unfold run at hw
     split at hw
     ·rename_i h;exact h.2
     ·omega
    have hx1:=x.toNat_lt
    have hl:=lo_ge c.toNat
    have hh:hi c.toNat≤191:=by unfold hi;split <;> (try split) <;> omega
    simp only [List.take_succ_cons,List.take_zero,joined,joinTo,lead,List.length_cons,List.length_nil,Nat.zero_add,Nat.reduceAdd,Nat.reduceSub,Nat.reducePow]
    rw [if_neg (by omega)]
    refine ⟨by unfold IsPt;omega,?_⟩
    unfold encN
    rw [if_neg (by omega),if_pos (by omega),by_eq (x:=c) (by omega),by_eq (x:=x) (by omega)]
  ·have hb:=b3 e
   rw [e] at hw hle ⊢
   match t,hle with
   | x :: y :: t',_ =>
    have hx:(lo c.toNat≤x.toNat∧x.toNat≤hi c.toNat)∧128≤y.toNat∧y.toNat≤191:=by
     unfold run at hw
     split at hw
     ·rename_i h
      refine ⟨h.2,?_⟩
      unfold run at hw
      split at hw
      ·rename_i h;exact h.2
      ·omega
     ·omega
    obtain ⟨⟨hx1,hx2⟩,hy1,hy2⟩:=hx
    have hlo:c.toNat=224→160≤x.toNat:=fun h=>by rw [h] at hx1;exact hx1
    have hhi:c.toNat=237→x.toNat≤159:=fun h=>by rw [h] at hx2;exact hx2
    have hl:=lo_ge c.toNat
    have hh:hi c.toNat≤191:=by unfold hi;split <;> (try split) <;> omega
    simp only [List.take_succ_cons,List.take_zero,joined,joinTo,lead,List.length_cons,List.length_nil,Nat.zero_add,Nat.reduceAdd,Nat.reduceSub,Nat.reducePow]
    rw [if_neg (by omega)]
    refine ⟨by unfold IsPt;omega,?_⟩
    unfold encN
    rw [if_neg (by omega),if_neg (by omega),if_pos (by omega),by_eq (x:=c) (by omega),by_eq (x:=x) (by omega),by_eq (x:=y) (by omega)]
  ·have hb:=b4 e
   rw [e] at hw hle ⊢
   match t,hle with
   | x :: y :: z :: t',_ =>
    have hx:(lo c.toNat≤x.toNat∧x.toNat≤hi c.toNat)∧(128≤y.toNat∧y.toNat≤191)∧128≤z.toNat∧z.toNat≤191:=by
     unfold run at hw
     split at hw
     ·rename_i h
      refine ⟨h.2,?_⟩
      unfold run at hw
      split at hw
      ·rename_i h
       refine ⟨h.2,?_⟩
       unfold run at hw
       split at hw
       ·rename_i h;exact h.2
       ·omega
      ·omega
     ·omega
    obtain ⟨⟨hx1,hx2⟩,⟨hy1,hy2⟩,hz1,hz2⟩:=hx
    have hlo:c.toNat=240→144≤x.toNat:=fun h=>by rw [h] at hx1;exact hx1
    have hhi:c.toNat=244→x.toNat≤143:=fun h=>by rw [h] at hx2;exact hx2
    have hl:=lo_ge c.toNat
    have hh:hi c.toNat≤191:=by unfold hi;split <;> (try split) <;> omega
    simp only [List.take_succ_cons,List.take_zero,joined,joinTo,lead,List.length_cons,List.length_nil,Nat.zero_add,Nat.reduceAdd,Nat.reduceSub,Nat.reducePow]
    rw [if_neg (by omega)]
    refine ⟨by unfold IsPt;omega,?_⟩
    unfold encN
    rw [if_neg (by omega),if_neg (by omega),if_neg (by omega),by_eq (x:=c) (by omega),by_eq (x:=x) (by omega),by_eq (x:=y) (by omega),by_eq (x:=z) (by omega)]
theorem rune_pt {l:List UInt8} (hne:l≠[]):IsPt (rune l):=by
 unfold rune
 split
 ·rename_i h;exact (wf_piece hne h).1
 ·unfold IsPt;omega
theorem vld_pt {q:Nat} (h:IsPt q):vld (q:Int)=true∧fix (q:Int)=q:=by
 obtain ⟨h1,h2⟩:=h
 have hv:vld (q:Int)=true:=by rw [vld_iff];omega
 exact ⟨hv,by unfold fix;rw [if_pos hv];simp⟩
end Go.Proofs.YtdngaddggcmjgaaDoor.Utf
