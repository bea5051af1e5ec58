/-
  Texts of stage 7, part 17.
-/
import Derived.Lib.OthersKept
import Derived.Deep.LoopGhost
import Derived.Test.YtdngaddggcmjgaaDoorW13
import Derived.Test.YtdngaddggcmjgaaDoorW16
namespace Go.Proofs.YtdngaddggcmjgaaDoor.Ucd
open Go.RowKit Utf
def runes (s:ByteArray):Nat→Nat→List Int
 | 0,_=>[]
 | f+1,pos=>if pos < s.size then ((Utf8.decode s pos).1:Int) :: runes s f (pos+(Utf8.decode s pos).2) else []
def runesOf (s:ByteArray):List Int:=runes s s.size 0
theorem decode_pos (s:ByteArray) (pos:Nat) (h:pos < s.size):1≤(Utf8.decode s pos).2:=by
 by_cases ha:(s[pos]'h).toNat < 128
 ·rw [decode_ascii s pos h ha];exact Nat.le_refl _
 ·exact (decode_high s pos h (by omega)).2
theorem runes_end (s:ByteArray) (f pos:Nat) (h:¬pos < s.size):runes s f pos=[]:=by
 cases f with
 | zero=>rfl
 | succ f=>rw [runes,if_neg h]
theorem runes_next (s:ByteArray) (f pos:Nat) (h:pos < s.size) (hf:s.size≤pos+f):∃f',f=f'+1∧runes s f pos=((Utf8.decode s pos).1:Int) :: runes s f' (pos+(Utf8.decode s pos).2)∧s.size≤pos+(Utf8.decode s pos).2+f':=by
 cases f with
 | zero=>omega
 | succ f=>exact ⟨f,rfl,by rw [runes,if_pos h],by have:=decode_pos s pos h;omega⟩
def compS:ByteArray:={ data:=((([195,128,195,129,195,130,195,131,195,132,195,133,195,135,195,136,195,137,195,138,195,139,195,140,195,141,195,142,195,143,195,145,195,146,195,147,195,148,195,149].append [195,150,195,153,195,154,195,155,195,156,195,157,195,160,195,161,195,162,195,163,195,164,195,165,195,167,195,168,195,169,195,170,195,171,195,172,195,173,195,174]).append ([195,175,195,177,195,178,195,179,195,180,195,181,195,182,195,185,195,186,195,187,195,188,195,189,195,191,196,128,196,129,196,130,196,131,196,132,196,133,196,134].append [196,135,196,136,196,137,196,138,196,139,196,140,196,141,196,142,196,143,196,146,196,147,196,148,196,149,196,150,196,151,196,152,196,153,196,154,196,155,196,156,196])).append (([157,196,158,196,159,196,160,196,161,196,162,196,163,196,164,196,165,196,168,196,169,196,170,196,171,196,172,196,173,196,174,196,175,196,176,196,180,196,181,196].append [182,196,183,196,185,196,186,196,187,196,188,196,189,196,190,197,131,197,132,197,133,197,134,197,135,197,136,197,140,197,141,197,142,197,143,197,144,197,145,197]).append ([148,197,149,197,150,197,151,197,152,197,153,197,154,197,155,197,156,197,157,197,158,197,159,197,160,197,161,197,162,197,163,197,164,197,165,197,168,197,169,197].append [170,197,171,197,172,197,173,197,174,197,175,197,176,197,177,197,178,197,179,197,180,197,181,197,182,197,183,197,184,197,185,197,186,197,187,197,188,197,189,197,190]))).toArray }
def compT:List Int:=[192,193,194,195,196,197,199,200,201,202,203,204,205,206,207,209,210,211,212,213,214,217,218,219,220,221,224,225,226,227,228,229,231,232,233,234,235,236,237,238,239,241,242,243,244,245,246,249,250,251,252,253,255,256,257,258,259,260,261,262,263,264,265,266,267,268,269,270,271,274,275,276,277,278,279,280,281,282,283,284,285,286,287,288,289,290,291,292,293,296,297,298,299,300,301,302,303,304,308,309,310,311,313,314,315,316,317,318,323,324,325,326,327,328,332,333,334,335,336,337,340,341,342,343,344,345,346,347,348,349,350,351,352,353,354,355,356,357,360,361,362,363,364,365,366,367,368,369,370,371,372,373,374,375,376,377,378,379,380,381,382]
theorem compT_runes:runesOf compS=compT:=by decide +kernel
def letS:ByteArray:={ data:=(([65,65,65,65,65,65,67,69,69,69,69,73,73,73,73,78,79,79,79,79,79,85,85,85,85,89,97,97,97,97,97,97,99,101,101,101,101,105,105,105].append [105,110,111,111,111,111,111,117,117,117,117,121,121,65,97,65,97,65,97,67,99,67,99,67,99,67,99,68,100,69,101,69,101,69,101,69,101,69,101,71]).append ([103,71,103,71,103,71,103,72,104,73,105,73,105,73,105,73,105,73,74,106,75,107,76,108,76,108,76,108,78,110,78,110,78,110,79,111,79,111,79,111].append [82,114,82,114,82,114,83,115,83,115,83,115,83,115,84,116,84,116,85,117,85,117,85,117,85,117,85,117,85,117,87,119,89,121,89,90,122,90,122,90,122])).toArray }
def letT:List Int:=[65,65,65,65,65,65,67,69,69,69,69,73,73,73,73,78,79,79,79,79,79,85,85,85,85,89,97,97,97,97,97,97,99,101,101,101,101,105,105,105,105,110,111,111,111,111,111,117,117,117,117,121,121,65,97,65,97,65,97,67,99,67,99,67,99,67,99,68,100,69,101,69,101,69,101,69,101,69,101,71,103,71,103,71,103,71,103,72,104,73,105,73,105,73,105,73,105,73,74,106,75,107,76,108,76,108,76,108,78,110,78,110,78,110,79,111,79,111,79,111,82,114,82,114,82,114,83,115,83,115,83,115,83,115,84,116,84,116,85,117,85,117,85,117,85,117,85,117,85,117,87,119,89,121,89,90,122,90,122,90,122]
theorem letT_runes:runesOf letS=letT:=by decide +kernel
def markS:ByteArray:={ data:=((([204,128,204,129,204,130,204,131,204,136,204,138,204,167,204,128,204,129,204,130,204,136,204,128,204,129,204,130,204,136,204,131,204,128,204,129,204,130,204,131].append [204,136,204,128,204,129,204,130,204,136,204,129,204,128,204,129,204,130,204,131,204,136,204,138,204,167,204,128,204,129,204,130,204,136,204,128,204,129,204,130]).append ([204,136,204,131,204,128,204,129,204,130,204,131,204,136,204,128,204,129,204,130,204,136,204,129,204,136,204,132,204,132,204,134,204,134,204,168,204,168,204,129].append [204,129,204,130,204,130,204,135,204,135,204,140,204,140,204,140,204,140,204,132,204,132,204,134,204,134,204,135,204,135,204,168,204,168,204,140,204,140,204,130,204])).append (([130,204,134,204,134,204,135,204,135,204,167,204,167,204,130,204,130,204,131,204,131,204,132,204,132,204,134,204,134,204,168,204,168,204,135,204,130,204,130,204].append [167,204,167,204,129,204,129,204,167,204,167,204,140,204,140,204,129,204,129,204,167,204,167,204,140,204,140,204,132,204,132,204,134,204,134,204,139,204,139,204]).append ([129,204,129,204,167,204,167,204,140,204,140,204,129,204,129,204,130,204,130,204,167,204,167,204,140,204,140,204,167,204,167,204,140,204,140,204,131,204,131,204].append [132,204,132,204,134,204,134,204,138,204,138,204,139,204,139,204,168,204,168,204,130,204,130,204,130,204,130,204,136,204,129,204,129,204,135,204,135,204,140,204,140]))).toArray }
def markT:List Int:=[768,769,770,771,776,778,807,768,769,770,776,768,769,770,776,771,768,769,770,771,776,768,769,770,776,769,768,769,770,771,776,778,807,768,769,770,776,768,769,770,776,771,768,769,770,771,776,768,769,770,776,769,776,772,772,774,774,808,808,769,769,770,770,775,775,780,780,780,780,772,772,774,774,775,775,808,808,780,780,770,770,774,774,775,775,807,807,770,770,771,771,772,772,774,774,808,808,775,770,770,807,807,769,769,807,807,780,780,769,769,807,807,780,780,772,772,774,774,779,779,769,769,807,807,780,780,769,769,770,770,807,807,780,780,807,807,780,780,771,771,772,772,774,774,778,778,779,779,808,808,770,770,770,770,776,769,769,775,775,780,780]
theorem markT_runes:runesOf markS=markT:=by decide +kernel
theorem composed_any (w:World):Calls Tryd.prog 62 #[] w fun e w'=>e=.returned (.string compS)∧w=w':=by
 obtain ⟨S,hS⟩:∃S,S=compS:=⟨_,rfl⟩
 have gS:({ data:=((([195,128,195,129,195,130,195,131,195,132,195,133,195,135,195,136,195,137,195,138,195,139,195,140,195,141,195,142,195,143,195,145,195,146,195,147,195,148,195,149].append [195,150,195,153,195,154,195,155,195,156,195,157,195,160,195,161,195,162,195,163,195,164,195,165,195,167,195,168,195,169,195,170,195,171,195,172,195,173,195,174]).append ([195,175,195,177,195,178,195,179,195,180,195,181,195,182,195,185,195,186,195,187,195,188,195,189,195,191,196,128,196,129,196,130,196,131,196,132,196,133,196,134].append [196,135,196,136,196,137,196,138,196,139,196,140,196,141,196,142,196,143,196,146,196,147,196,148,196,149,196,150,196,151,196,152,196,153,196,154,196,155,196,156,196])).append (([157,196,158,196,159,196,160,196,161,196,162,196,163,196,164,196,165,196,168,196,169,196,170,196,171,196,172,196,173,196,174,196,175,196,176,196,180,196,181,196].append [182,196,183,196,185,196,186,196,187,196,188,196,189,196,190,197,131,197,132,197,133,197,134,197,135,197,136,197,140,197,141,197,142,197,143,197,144,197,145,197]).append ([148,197,149,197,150,197,151,197,152,197,153,197,154,197,155,197,156,197,157,197,158,197,159,197,160,197,161,197,162,197,163,197,164,197,165,197,168,197,169,197].append [170,197,171,197,172,197,173,197,174,197,175,197,176,197,177,197,178,197,179,197,180,197,181,197,182,197,183,197,184,197,185,197,186,197,187,197,188,197,189,197,190]))).toArray }:ByteArray)=S:=hS.symm
 rw [←hS]
 go_enter Tryd.func62,Tryd.ntmps62
 rw [gS]
 clear gS hS
 go_wp2
 go_ret
 exact ⟨rfl,rfl⟩
theorem letters_any (w:World):Calls Tryd.prog 64 #[] w fun e w'=>e=.returned (.string letS)∧w=w':=by
 obtain ⟨S,hS⟩:∃S,S=letS:=⟨_,rfl⟩
 have gS:({ data:=(([65,65,65,65,65,65,67,69,69,69,69,73,73,73,73,78,79,79,79,79,79,85,85,85,85,89,97,97,97,97,97,97,99,101,101,101,101,105,105,105].append [105,110,111,111,111,111,111,117,117,117,117,121,121,65,97,65,97,65,97,67,99,67,99,67,99,67,99,68,100,69,101,69,101,69,101,69,101,69,101,71]).append ([103,71,103,71,103,71,103,72,104,73,105,73,105,73,105,73,105,73,74,106,75,107,76,108,76,108,76,108,78,110,78,110,78,110,79,111,79,111,79,111].append [82,114,82,114,82,114,83,115,83,115,83,115,83,115,84,116,84,116,85,117,85,117,85,117,85,117,85,117,85,117,87,119,89,121,89,90,122,90,122,90,122])).toArray }:ByteArray)=S:=hS.symm
 rw [←hS]
 go_enter Tryd.func64,Tryd.ntmps64
 rw [gS]
 clear gS hS
 go_wp2
 go_ret
 exact ⟨rfl,rfl⟩
theorem marked_any (w:World):Calls Tryd.prog 65 #[] w fun e w'=>e=.returned (.string markS)∧w=w':=by
 obtain ⟨S,hS⟩:∃S,S=markS:=⟨_,rfl⟩
 have gS:({ data:=((([204,128,204,129,204,130,204,131,204,136,204,138,204,167,204,128,204,129,204,130,204,136,204,128,204,129,204,130,204,136,204,131,204,128,204,129,204,130,204,131].append [204,136,204,128,204,129,204,130,204,136,204,129,204,128,204,129,204,130,204,131,204,136,204,138,204,167,204,128,204,129,204,130,204,136,204,128,204,129,204,130]).append ([204,136,204,131,204,128,204,129,204,130,204,131,204,136,204,128,204,129,204,130,204,136,204,129,204,136,204,132,204,132,204,134,204,134,204,168,204,168,204,129].append [204,129,204,130,204,130,204,135,204,135,204,140,204,140,204,140,204,140,204,132,204,132,204,134,204,134,204,135,204,135,204,168,204,168,204,140,204,140,204,130,204])).append (([130,204,134,204,134,204,135,204,135,204,167,204,167,204,130,204,130,204,131,204,131,204,132,204,132,204,134,204,134,204,168,204,168,204,135,204,130,204,130,204].append [167,204,167,204,129,204,129,204,167,204,167,204,140,204,140,204,129,204,129,204,167,204,167,204,140,204,140,204,132,204,132,204,134,204,134,204,139,204,139,204]).append ([129,204,129,204,167,204,167,204,140,204,140,204,129,204,129,204,130,204,130,204,167,204,167,204,140,204,140,204,167,204,167,204,140,204,140,204,131,204,131,204].append [132,204,132,204,134,204,134,204,138,204,138,204,139,204,139,204,168,204,168,204,130,204,130,204,130,204,130,204,136,204,129,204,129,204,135,204,135,204,140,204,140]))).toArray }:ByteArray)=S:=hS.symm
 rw [←hS]
 go_enter Tryd.func65,Tryd.ntmps65
 rw [gS]
 clear gS hS
 go_wp2
 go_ret
 exact ⟨rfl,rfl⟩
set_option maxHeartbeats 4000000 in
theorem nth_any (s:ByteArray) (at_:Nat) (w:World) (hs:s.size≤1000000):Calls Tryd.prog 63 #[.string s,.int .i64 at_] w (Ret w (.int .i32 ((runesOf s).getD at_ 0))):=by
 have HS:=Lib.hid hs
 clear hs
 go_enter Tryd.func63,Tryd.ntmps63
 go_wp2
 go_loopw [5] (fun i wr=>∃f pos k:Nat,i=.int .i64 k∧wr=w.iter s pos∧Hid (s.size≤pos+f∧k≤at_∧k≤pos∧(runes s f pos).getD (at_ - k) 0=(runesOf s).getD at_ 0)) (fun _ wr=>s.size - wr.iterPos w.heap.size)
 case atStart=>exact ⟨s.size,0,0,rfl,rfl,Lib.hid ⟨by omega,by omega,by omega,rfl⟩⟩
 case round =>
  obtain ⟨f,pos,k,rfl,rfl,H⟩:=hrel
  have hBB:=below_iter (Below.refl w.heap.size w) (Nat.le_refl _) s
  by_cases hlt:pos < s.size
  ·have hn:∀ty,(Instr.next (.pointer (some ⟨w.heap.size,0,none⟩)) true ty).run Tryd.prog (w.iter s pos)=.ok (.tuple #[.bool true,.int .i64 pos,.int .i32 (Utf8.decode s pos).1]) (w.iter s (pos+(Utf8.decode s pos).2)):=fun ty=>run_next_any w s pos ty hlt
   obtain ⟨f',rfl,hr,hf'⟩:=runes_next s f pos hlt H.out.1
   have hp:=decode_pos s pos hlt
   have hkb:k≤1000000:=by have:=H.out.2.2.1;have:=HS.out;omega
   generalize (Utf8.decode s pos).1=c at hn hr
   generalize (Utf8.decode s pos).2=d at hn hr hf' hp
   have HR:=Lib.hid hr;have HF:=Lib.hid hf';have HB:=Lib.hid (hBB (pos+d));have HP:=Lib.hid hp;have HLT:=Lib.hid hlt
   clear hr hf' hBB hp hlt
   by_cases hk:k=at_
   ·have hk':((k:Int) == (at_:Int))=true:=by rw [hk];exact beq_self_eq_true _
    have HK:=Lib.hid hk
    clear hk
    go_wp2
    go_ret
    exact ⟨ret_int (by rw [←H.out.2.2.2,HR.out,HK.out];simp),HB.out⟩
   ·have hk':((k:Int) == (at_:Int))=false:=by simp;omega
    have HK:=Lib.hid hk
    clear hk
    go_wp2
    go_roundw
    case rel=>exact ⟨f',pos+d,k+1,by go_num,rfl,Lib.hid ⟨HF.out,by have:=H.out.2.1;have:=HK.out;omega,by have:=H.out.2.2.1;have:=HP.out;omega,by
     rw [←H.out.2.2.2,HR.out,show at_ - k=(at_ - (k+1))+1 from by have:=H.out.2.1;have:=HK.out;omega]
     simp⟩⟩
    case measure=>have:=HP.out;have:=HLT.out;simp;omega
  ·have hn:∀ty,(Instr.next (.pointer (some ⟨w.heap.size,0,none⟩)) true ty).run Tryd.prog (w.iter s pos)=.ok (.tuple #[.bool false]) (w.iter s pos):=fun ty=>run_next_end w s pos ty hlt
   have HB:=Lib.hid (hBB pos)
   have HE:=Lib.hid (show (runesOf s).getD at_ 0=0 by rw [←H.out.2.2.2,runes_end s f pos hlt];simp)
   clear hBB hlt
   go_wp2
   go_ret
   exact ⟨ret_int HE.out.symm,HB.out⟩
end Go.Proofs.YtdngaddggcmjgaaDoor.Ucd
namespace Go.Proofs.YtdngaddggcmjgaaDoor.Ucd
open Go.RowKit Utf
def lastIx:List Int→Int→Int→Int→Int
 | [],_,a,_=>a
 | c :: t,i,a,r=>lastIx t (i+1) (if c=r then i else a) r
theorem last_no:∀{l:List Int} {i a r:Int},(∀c∈l,c≠r)→lastIx l i a r=a:=by
 intro l
 induction l with
 | nil=>intro i a r _;rfl
 | cons c t ih=>intro i a r h;rw [lastIx,if_neg (h c (by simp)),ih fun y hy=>h y (by simp [hy])]
theorem last_lo:∀{l:List Int} {i a r:Int},-1≤a→0≤i→-1≤lastIx l i a r:=by
 intro l
 induction l with
 | nil=>intro i a r h _;exact h
 | cons c t ih=>intro i a r h hi;rw [lastIx];exact ih (by split <;> omega) (by omega)
def rlat (r:Int):Int × Int × Int:=if 0≤lastIx compT 0 (-1) r then (letT.getD (lastIx compT 0 (-1) r).toNat 0,markT.getD (lastIx compT 0 (-1) r).toNat 0,2) else kfind fewT r
theorem comp_in:∀c∈compT,192≤c∧c≤383:=by decide +kernel
theorem rlat_near:∀i < 192,rlat (192+(i:Nat))=pairF (192+(i:Nat)):=by decide +kernel
theorem rlat_eq (r:Int) (h:¬(44032≤r∧r≤55203)):rlat r=pairF r:=by
 by_cases hr:192≤r∧r≤383
 ·have:=rlat_near (r - 192).toNat (by omega)
  rwa [show 192+(((r - 192).toNat:Nat):Int)=r from by omega] at this
 ·have e:lastIx compT 0 (-1) r=-1:=last_no fun c hc e=>by have:=comp_in c hc;omega
  rw [rlat,e,if_neg (by omega),few_lst,pairF,if_neg hr,if_neg h]
theorem syl_eq (s:Int):(sylA s,sylB s,(2:Int))=if s % 28=0 then (4352+s / 588,4449+s / 28 % 21,2) else (44032+(s / 588*21+s / 28 % 21)*28,4519+s % 28,2):=by
 unfold sylA sylB
 by_cases hz:s % 28=0
 ·simp only [if_pos hz,Prod.mk.injEq]
  exact ⟨trivial,by omega,trivial⟩
 ·simp only [if_neg hz,Prod.mk.injEq]
  first | exact ⟨by omega,trivial,trivial⟩ | exact ⟨by omega,trivial⟩ | omega
set_option maxHeartbeats 4000000 in
theorem rpair_syl (r:Int) (w:World) (h1:44032≤r) (h2:r≤55203):Calls Tryd.prog 45 #[.int .i32 r] w (Ret w (trip (pairF r))):=by
 have e:pairF r=(sylA (r - 44032),sylB (r - 44032),2):=by unfold pairF;rw [if_neg (by omega),if_pos ⟨h1,h2⟩]
 rw [e,syl_eq]
 clear e
 have hin:inB r 44032 55203=true:=decide_eq_true ⟨h1,h2⟩
 have q0:0≤r - 44032:=by omega
 have q1:=Int.emod_nonneg (r - 44032) (b:=28) (by omega)
 have q2:=Int.emod_lt_of_pos (r - 44032) (b:=28) (by omega)
 have q3:0≤(r - 44032) / 588:=by omega
 have q4:(r - 44032) / 588≤18:=by omega
 have q5:0≤(r - 44032) / 28:=by omega
 have q6:0≤(r - 44032) / 28 % 21:=by omega
 have q7:(r - 44032) / 28 % 21≤20:=by omega
 by_cases hz:(r - 44032) % 28=0
 ·have hz':((r - 44032) % 28 == 0)=true:=by simpa using hz
  rw [if_pos hz]
  clear hz
  go_enter Tryd.func45,Tryd.ntmps45
  go_wp2_with (go_at_call 40;refine (in_any _ _ _ _).mono ?_;rintro e w' ⟨rfl,rfl⟩)
  exact bodyPost_ret (v:=.tuple #[.int .i32 (4352+(r - 44032) / 588),.int .i32 (4449+(r - 44032) / 28 % 21),.int .i64 2]) (by simp [results,Tryd.results45,go_sem]) rfl ⟨rfl,Below.refl _ _⟩
 ·have hz':((r - 44032) % 28 == 0)=false:=by simpa using hz
  rw [if_neg hz]
  clear hz
  go_enter Tryd.func45,Tryd.ntmps45
  go_wp2_with (go_at_call 40;refine (in_any _ _ _ _).mono ?_;rintro e w' ⟨rfl,rfl⟩)
  exact bodyPost_ret (v:=.tuple #[.int .i32 (44032+((r - 44032) / 588*21+(r - 44032) / 28 % 21)*28),.int .i32 (4519+(r - 44032) % 28),.int .i64 2]) (by simp [results,Tryd.results45,go_sem]) rfl ⟨rfl,Below.refl _ _⟩
set_option maxHeartbeats 8000000 in
theorem rpair_lat (r:Int) (w:World) (h:¬(44032≤r∧r≤55203)):Calls Tryd.prog 45 #[.int .i32 r] w (Ret w (trip (rlat r))):=by
 have hin:inB r 44032 55203=false:=decide_eq_false h
 have HLO:=Lib.hid (show -1≤lastIx compT 0 (-1) r from last_lo (by omega) (by omega))
 have HRL:=Lib.hid (show rlat r=if 0≤lastIx compT 0 (-1) r then (letT.getD (lastIx compT 0 (-1) r).toNat 0,markT.getD (lastIx compT 0 (-1) r).toNat 0,2) else kfind fewT r from rfl)
 have HS:Hid (compS.size=322):=Lib.hid (by decide +kernel)
 have HT:Hid (runes compS compS.size 0=compT):=Lib.hid compT_runes
 have HC:=Lib.hid (composed_any w)
 clear h
 generalize compS=S at HS HT HC
 go_enter Tryd.func45,Tryd.ntmps45
 go_wp2_with (first | (go_at_call 40;refine (in_any _ _ _ _).mono ?_;rintro e w' ⟨rfl,rfl⟩) | (go_at_call 62;refine HC.out.mono ?_;rintro e w' ⟨rfl,rfl⟩))
 go_loopw [9,10] (fun a i wr=>∃(f pos k:Nat) (z:Int),a=.int .i64 z∧i=.int .i64 k∧wr=w.iter S pos∧Hid (S.size≤pos+f∧k≤pos∧lastIx (runes S f pos) k z r=lastIx compT 0 (-1) r)) (fun _ _ wr=>S.size - wr.iterPos w.heap.size)
 case atStart=>exact ⟨S.size,0,0,-1,rfl,rfl,rfl,Lib.hid ⟨by omega,by omega,by rw [HT.out];rfl⟩⟩
 case round =>
  obtain ⟨f,pos,k,z,rfl,rfl,rfl,H⟩:=hrel
  have hBB:=below_iter (Below.refl w.heap.size w) (Nat.le_refl _) S
  by_cases hlt:pos < S.size
  ·have hn:∀ty,(Instr.next (.pointer (some ⟨w.heap.size,0,none⟩)) true ty).run Tryd.prog (w.iter S pos)=.ok (.tuple #[.bool true,.int .i64 pos,.int .i32 (Utf8.decode S pos).1]) (w.iter S (pos+(Utf8.decode S pos).2)):=fun ty=>run_next_any w S pos ty hlt
   obtain ⟨f',rfl,hr,hf'⟩:=runes_next S f pos hlt H.out.1
   have hp:=decode_pos S pos hlt
   have hkb:k≤1000000:=by have:=H.out.2.1;have:=HS.out;omega
   generalize (Utf8.decode S pos).1=c at hn hr
   generalize (Utf8.decode S pos).2=d at hn hr hf' hp
   have HR:=Lib.hid hr;have HF:=Lib.hid hf';have HP:=Lib.hid hp;have HLT:=Lib.hid hlt
   clear hr hf' hBB hp hlt
   by_cases hk:(c:Int)=r
   ·have hk':((c:Int) == r)=true:=by rw [hk];exact beq_self_eq_true _
    have HK:=Lib.hid hk
    clear hk
    go_wp2
    go_roundw
    case rel=>exact ⟨f',pos+d,k+1,k,rfl,by go_num,rfl,Lib.hid ⟨HF.out,by have:=H.out.2.1;have:=HP.out;omega,by rw [←H.out.2.2,HR.out,lastIx,if_pos HK.out];rfl⟩⟩
    case measure=>have:=HP.out;have:=HLT.out;simp;omega
   ·have hk':((c:Int) == r)=false:=by simpa using hk
    have HK:=Lib.hid hk
    clear hk
    go_wp2
    go_roundw
    case rel=>exact ⟨f',pos+d,k+1,z,rfl,by go_num,rfl,Lib.hid ⟨HF.out,by have:=H.out.2.1;have:=HP.out;omega,by rw [←H.out.2.2,HR.out,lastIx,if_neg HK.out];rfl⟩⟩
    case measure=>have:=HP.out;have:=HLT.out;simp;omega
  ·have hn:∀ty,(Instr.next (.pointer (some ⟨w.heap.size,0,none⟩)) true ty).run Tryd.prog (w.iter S pos)=.ok (.tuple #[.bool false]) (w.iter S pos):=fun ty=>run_next_end w S pos ty hlt
   have HB:=Lib.hid (hBB pos)
   have hz:z=lastIx compT 0 (-1) r:=by rw [←H.out.2.2,runes_end S f pos hlt];rfl
   rw [←hz] at HLO HRL
   clear hBB hlt hz
   by_cases hz0:0≤z
   ·have HR:=Lib.hid (HRL.out.trans (if_pos hz0))
    obtain ⟨j,rfl⟩:∃j:Nat,z=j:=⟨z.toNat,by omega⟩
    clear hz0
    go_wp2_with fail
    refine (letters_any _).mono ?_
    rintro e w' ⟨rfl,rfl⟩
    go_wp2_with fail
    refine (nth_any letS j _ (by decide +kernel)).mono ?_
    rintro e w2 ⟨rfl,hb2⟩
    have HB2:=Lib.hid (HB.out.trans (hb2.mono HB.out.size))
    clear hb2
    go_wp2_with fail
    refine (marked_any _).mono ?_
    rintro e w' ⟨rfl,rfl⟩
    go_wp2_with fail
    refine (nth_any markS j _ (by decide +kernel)).mono ?_
    rintro e w3 ⟨rfl,hb3⟩
    have HB3:=Lib.hid (HB2.out.trans (hb3.mono HB2.out.size))
    clear hb3
    rw [letT_runes,markT_runes]
    go_wp2_with fail
    exact bodyPost_ret (v:=.tuple #[.int .i32 (letT.getD j 0),.int .i32 (markT.getD j 0),.int .i64 2]) (by simp [results,Tryd.results45,go_sem]) rfl ⟨by rw [HR.out];rfl,HB3.out⟩
   ·have HR:=Lib.hid (HRL.out.trans (if_neg hz0))
    have hzn:z < 0:=by omega
    clear hz0
    generalize hq:kfind fewT r=q
    have HQ:=Lib.hid hq
    obtain ⟨qa,qb,qn⟩:=q
    clear hq
    go_wp2_with fail
    refine (few_any r _).mono ?_
    rintro e w' ⟨rfl,rfl⟩
    rw [HQ.out]
    dsimp only [trip]
    go_wp2_with fail
    exact bodyPost_ret (v:=.tuple #[.int .i32 qa,.int .i32 qb,.int .i64 qn]) (by simp [results,Tryd.results45,go_sem]) rfl ⟨by rw [HR.out,HQ.out];rfl,HB.out⟩
theorem rpair_any (r:Int) (w:World):Calls Tryd.prog 45 #[.int .i32 r] w (Ret w (trip (pairF r))):=by
 by_cases h:44032≤r∧r≤55203
 ·exact rpair_syl r w h.1 h.2
 ·rw [←rlat_eq r h];exact rpair_lat r w h
end Go.Proofs.YtdngaddggcmjgaaDoor.Ucd
namespace Go.Proofs.YtdngaddggcmjgaaDoor.Ucd
open Go.RowKit Utf
theorem dep_parts {k:Nat} {x:Int} (h:dep (k+1) x=true) (hz:¬(pairF x).2.2=0):dep k (pairF x).1=true∧((pairF x).2.2=1∨(pairF x).2.2=2∧dep k (pairF x).2.1=true):=by
 have e:((pairF x).2.2 == 0)=false:=by simpa using hz
 rw [dep,e,Bool.false_or,Bool.and_eq_true,Bool.or_eq_true,Bool.and_eq_true,beq_iff_eq,beq_iff_eq] at h
 exact h
theorem full_more (k:Nat):∀x,dep k x=true→full (k+1) x=full k x:=by
 induction k with
 | zero =>
  intro x h
  have:(pairF x).2.2=0:=by simpa [dep] using h
  simp [full,this]
 | succ k ih =>
  intro x h
  have e1:full (k+1+1) x=if (pairF x).2.2=0 then [x] else full (k+1) (pairF x).1++(if (pairF x).2.2=2 then full (k+1) (pairF x).2.1 else []):=rfl
  have e2:full (k+1) x=if (pairF x).2.2=0 then [x] else full k (pairF x).1++(if (pairF x).2.2=2 then full k (pairF x).2.1 else []):=rfl
  rw [e1,e2]
  by_cases hz:(pairF x).2.2=0
  ·rw [if_pos hz,if_pos hz]
  ·obtain ⟨ha,hb⟩:=dep_parts h hz
   rw [if_neg hz,if_neg hz,ih _ ha]
   rcases hb with hb | ⟨hb,hd⟩
   ·rw [if_neg (by omega),if_neg (by omega)]
   ·rw [if_pos hb,if_pos hb,ih _ hd]
theorem full_step {x:Int} (hz:¬(pairF x).2.2=0):fullF x=fullF (pairF x).1++(if (pairF x).2.2=2 then fullF (pairF x).2.1 else []):=by
 have e:full 4 x=if (pairF x).2.2=0 then [x] else full 3 (pairF x).1++(if (pairF x).2.2=2 then full 3 (pairF x).2.1 else []):=rfl
 rw [fullF,←full_more 3 x (dep_all x),e,if_neg hz]
 rfl
theorem full_self {x:Int} (hz:(pairF x).2.2=0):fullF x=[x]:=by rw [fullF,full,if_pos hz]
def wtG:Nat→Int→Nat
 | 0,_=>0
 | k+1,x=>if (pairF x).2.2=0 then 0 else 1+wtG k (pairF x).1+(if (pairF x).2.2=2 then wtG k (pairF x).2.1 else 0)
theorem wt_more (k:Nat):∀x,dep k x=true→wtG (k+1) x=wtG k x:=by
 induction k with
 | zero =>
  intro x h
  have:(pairF x).2.2=0:=by simpa [dep] using h
  simp [wtG,this]
 | succ k ih =>
  intro x h
  have e1:wtG (k+1+1) x=if (pairF x).2.2=0 then 0 else 1+wtG (k+1) (pairF x).1+(if (pairF x).2.2=2 then wtG (k+1) (pairF x).2.1 else 0):=rfl
  have e2:wtG (k+1) x=if (pairF x).2.2=0 then 0 else 1+wtG k (pairF x).1+(if (pairF x).2.2=2 then wtG k (pairF x).2.1 else 0):=rfl
  rw [e1,e2]
  by_cases hz:(pairF x).2.2=0
  ·rw [if_pos hz,if_pos hz]
  ·obtain ⟨ha,hb⟩:=dep_parts h hz
   rw [if_neg hz,if_neg hz,ih _ ha]
   rcases hb with hb | ⟨hb,hd⟩
   ·rw [if_neg (by omega),if_neg (by omega)]
   ·rw [if_pos hb,if_pos hb,ih _ hd]
def wt (x:Int):Nat:=wtG 3 x
theorem wt_step {x:Int} (hz:¬(pairF x).2.2=0):wt x=1+wt (pairF x).1+(if (pairF x).2.2=2 then wt (pairF x).2.1 else 0):=by
 have e:wtG 4 x=if (pairF x).2.2=0 then 0 else 1+wtG 3 (pairF x).1+(if (pairF x).2.2=2 then wtG 3 (pairF x).2.1 else 0):=rfl
 rw [wt,←wt_more 3 x (dep_all x),e,if_neg hz]
 rfl
def parts (q:Int × Int × Int):List Int:=if q.2.2=1 then [q.1] else [q.1,q.2.1]
theorem parts_len (q:Int × Int × Int):(parts q).length≤2:=by unfold parts;split <;> simp
def put (L:List Int) (j:Nat) (P:List Int):List Int:=L.take j++P++L.drop (j+1)
theorem split_at {L:List Int} {j:Nat} (h:j < L.length):L=L.take j++L[j] :: L.drop (j+1):=by
 rw [←List.drop_eq_getElem_cons h,List.take_append_drop]
theorem put_full {L:List Int} {j:Nat} (h:j < L.length) (hz:¬(pairF L[j]).2.2=0):(put L j (parts (pairF L[j]))).flatMap fullF=L.flatMap fullF:=by
 have hn:=pair_n L[j]
 conv=>rhs;rw [split_at h]
 simp only [put,List.flatMap_append,List.flatMap_cons,List.append_assoc]
 congr 1
 rw [full_step hz]
 unfold parts
 rcases hn with hn | hn | hn
 ·exact absurd hn hz
 ·rw [if_pos hn,if_neg (by omega)];simp
 ·rw [if_neg (by omega),if_pos hn];simp
theorem put_wt {L:List Int} {j:Nat} (h:j < L.length) (hz:¬(pairF L[j]).2.2=0):((put L j (parts (pairF L[j]))).map wt).sum < (L.map wt).sum:=by
 have hn:=pair_n L[j]
 conv=>rhs;rw [split_at h]
 simp only [put,List.map_append,List.sum_append,List.map_cons,List.sum_cons]
 rw [wt_step hz]
 unfold parts
 rcases hn with hn | hn | hn
 ·exact absurd hn hz
 ·rw [if_pos hn,if_neg (by omega)];simp;omega
 ·rw [if_neg (by omega),if_pos hn];simp;omega
theorem full_some (x:Int):1≤(fullF x).length:=(bottom_parts x).1
theorem flat_len:∀L:List Int,L.length≤(L.flatMap fullF).length
 | []=>by simp
 | x :: t=>by
  have:=flat_len t
  have:=full_some x
  simp only [List.flatMap_cons,List.length_append,List.length_cons]
  omega
def grow (L:List Int) (j:Nat) (P:List Int) (k:Nat):List Int:=if k≤j then L.take k else L.take j++P++(L.drop (j+1)).take (k - (j+1))
theorem grow_other {L:List Int} {j:Nat} (P:List Int) {k:Nat} (hk:k < L.length) (hj:k≠j):grow L j P (k+1)=grow L j P k++[L[k]]:=by
 unfold grow
 by_cases h:k < j
 ·rw [if_pos (by omega),if_pos (by omega),List.take_succ_eq_append_getElem hk]
 ·rw [if_neg (by omega),if_neg (by omega)]
  have hd:k - (j+1) < (L.drop (j+1)).length:=by rw [List.length_drop];omega
  rw [show k+1 - (j+1)=(k - (j+1))+1 from by omega,List.take_succ_eq_append_getElem hd,←List.append_assoc]
  congr 2
  rw [List.getElem_drop]
  congr 1
  omega
theorem grow_at (L:List Int) (j:Nat) (P:List Int):grow L j P (j+1)=grow L j P j++P:=by
 unfold grow
 rw [if_neg (by omega),if_pos (Nat.le_refl _)]
 simp
theorem grow_all {L:List Int} {j:Nat} (P:List Int) (h:j < L.length):grow L j P L.length=put L j P:=by
 unfold grow put
 rw [if_neg (by omega)]
 congr 1
 exact List.take_of_length_le (by rw [List.length_drop];omega)
theorem grow_len (L:List Int) (j:Nat) (P:List Int) (hP:P.length≤2) (k:Nat):(grow L j P k).length≤k+1:=by
 unfold grow
 split
 ·rw [List.length_take];omega
 ·simp only [List.length_append,List.length_take];omega
theorem all_self:∀{L:List Int},(∀x∈L,(pairF x).2.2=0)→L.flatMap fullF=L
 | [],_=>rfl
 | x :: t,h=>by rw [List.flatMap_cons,full_self (h x (by simp)),all_self fun y hy=>h y (by simp [hy])];rfl
theorem own_cast {w:World} {base:Nat} {v:Value} {G X G':List Int} (h:w.ownsRow base 21 1 v (G.length+X.length) (nums G++nums X)) (e:G++X=G'):w.ownsRow base 21 1 v G'.length (nums G'):=by
 subst e
 rw [List.length_append,nums_append]
 exact h
def NewAt (w:World) (xs:List Int) (e:Ending) (w':World):Prop:=∃A c,e=.returned (.slice A xs.length c)∧xs.length≤c∧c≤9223372036854775807∧Rd w' w'.heap.size A (nums xs)∧Below w.heap.size w w'∧∀b o,A=some ⟨b,o,none⟩→w.heap.size≤b
set_option maxRecDepth 100000 in
set_option maxHeartbeats 16000000 in
theorem rdec_new (r:Int) (w:World):Calls Tryd.prog 28 #[.int .i32 r] w (NewAt w (fullF r)):=by
 obtain ⟨i0,hi,hz0,hz1,hz2⟩:=info_parts infoI32
 go_enter Tryd.func28,Tryd.ntmps28
 go_wp2
 go_loopg [3] (wt r) (fun g l wr=>∃(L:List Int) (m:Nat) (A:Option Addr) (c:Nat),l=.slice A m c∧Hid (m=L.length)∧Hid (m≤c∧c≤9223372036854775807∧Rd wr wr.heap.size A (nums L)∧L.flatMap fullF=fullF r∧(L.map wt).sum≤g∧Below w.heap.size w wr∧∀b o,A=some ⟨b,o,none⟩→w.heap.size≤b))
 case atStart =>
  exact ⟨[r],1,some ⟨w.heap.size,0,none⟩,1,rfl,Lib.hid rfl,Lib.hid ⟨Nat.le_refl _,by omega,(rd_new w _ (nums [r]) _ rfl).more (by simp),by simp,by simp,(Below.refl _ _).alloc (Nat.le_refl _) _,fun b o h=>by cases h;exact Nat.le_refl _⟩⟩
 case round =>
  obtain ⟨L,m,A,c,rfl,HM,H⟩:=hrel
  have hm3:m≤3:=by
   have h1:=flat_len L
   rw [H.out.2.2.2.1] at h1
   have h2:=(bottom_parts r).2.1
   have:=HM.out
   omega
  obtain ⟨wo,hwo⟩:∃wo,wo=wr:=⟨_,rfl⟩
  rw [←hwo] at H ⊢
  clear hwo
  go_wp2
  go_loopw [4,5,6,7,8] (fun at_ a b n i wx=>∃(k:Nat) (z qa qb qn:Int),k≤m∧at_=.int .i64 z∧a=.int .i32 qa∧b=.int .i32 qb∧n=.int .i64 qn∧i=.int .i64 k∧Hid (Below wo.heap.size wo wx)∧Hid ((z=-1∧∀x∈L.take k,(pairF x).2.2=0)∨(∃j:Nat,z=j∧j < m∧∃h:j < L.length,pairF L[j]=(qa,qb,qn)∧qn≠0))) (fun _ _ _ _ i _=>m - (intOf i).toNat)
  case atStart=>exact ⟨0,-1,0,0,0,by omega,rfl,rfl,rfl,rfl,rfl,Lib.hid (Below.refl _ _),Lib.hid (.inl ⟨rfl,by simp⟩)⟩
  case round =>
   obtain ⟨k,z,qa,qb,qn,hk,rfl,rfl,rfl,rfl,rfl,HJ,HC⟩:=hrel
   rcases HC.out with ⟨rfl,hall⟩ | ⟨j,rfl,hjm,hjl,hq,hqn⟩
   ·by_cases hlt:k < m
    ·have hkl:k < L.length:=by rw [←HM.out];exact hlt
     obtain ⟨b,o,rfl,hbH⟩:=H.out.2.2.1.form (by rw [nums_len];omega)
     have hcell:wr.cell? ⟨b,o+k,none⟩=some (.int .i32 L[k]):=(H.out.2.2.1.below HJ.out).num hkl
     have HP:=Lib.hid (rpair_any L[k] wr)
     have HALL:=Lib.hid (show (pairF L[k]).2.2=0→∀x∈L.take (k+1),(pairF x).2.2=0 from fun h0 x hx=>by
      rw [List.take_succ_eq_append_getElem hkl,List.mem_append] at hx
      rcases hx with hx | hx
      ·exact hall x hx
      ·obtain rfl:=List.mem_singleton.1 hx;exact h0)
     have hn:=pair_n L[k]
     have HQ:=Lib.hid (show ∃h:k < L.length,pairF L[k]=pairF L[k] from ⟨hkl,rfl⟩)
     obtain ⟨q,hq⟩:∃q,q=pairF L[k]:=⟨_,rfl⟩
     rw [←hq] at HP HALL hn
     have HQQ:=Lib.hid (show ∃h:k < L.length,pairF L[k]=q from ⟨hkl,hq.symm⟩)
     generalize L[k]=x at hcell HP
     obtain ⟨pa,pb,pn⟩:=q
     dsimp only at hn HALL
     have hlz:((-1:Int) < 0)=True:=by simp
     clear hkl hall hq HQ
     by_cases hpn:pn=0
     ·subst hpn
      go_wp2_with fail
      refine HP.out.mono ?_
      rintro e w4 ⟨rfl,hb4⟩
      have HB4:=Lib.hid (HJ.out.trans (hb4.mono HJ.out.size))
      clear hb4
      dsimp only [trip]
      go_wp2_with fail
      go_roundw
      case rel=>exact ⟨k+1,-1,qa,qb,qn,by omega,rfl,rfl,rfl,rfl,by go_num,HB4,Lib.hid (.inl ⟨rfl,HALL.out trivial⟩)⟩
      case measure=>simp [intOf];omega
     ·have hpp:0 < pn:=by rcases hn with h | h | h <;> omega
      have HPN:=Lib.hid hpn
      clear hpn hn
      go_wp2_with fail
      refine HP.out.mono ?_
      rintro e w4 ⟨rfl,hb4⟩
      have HB4:=Lib.hid (HJ.out.trans (hb4.mono HJ.out.size))
      clear hb4
      dsimp only [trip]
      go_wp2_with fail
      go_roundw
      case rel=>exact ⟨k+1,k,pa,pb,pn,by omega,rfl,rfl,rfl,rfl,by go_num,HB4,Lib.hid (.inr ⟨k,rfl,hlt,by obtain ⟨h,e⟩:=HQQ.out;exact ⟨h,e,HPN.out⟩⟩)⟩
      case measure=>simp [intOf];omega
    ·have HALL:=Lib.hid (show L.flatMap fullF=L by
      refine all_self fun x hx=>hall x ?_
      rwa [List.take_of_length_le (by have:=HM.out;omega)])
     clear hall
     go_wp2_with fail
     go_ret
     have e:fullF r=L:=by rw [←H.out.2.2.2.1,HALL.out]
     exact ⟨A,c,by rw [e,←HM.out];rfl,by rw [e,←HM.out];exact H.out.1,H.out.2.1,by rw [e];exact (H.out.2.2.1.below HJ.out).more HJ.out.size,H.out.2.2.2.2.2.1.trans (HJ.out.mono H.out.2.2.2.2.2.1.size),H.out.2.2.2.2.2.2⟩
   ·have hjz:decide ((j:Int) < 0)=false:=by rw [decide_eq_false];omega
    have hn2:qn=1∨qn=2:=by
     have h:=pair_n L[j]
     rw [hq] at h
     rcases h with h | h | h
     ·exact absurd h hqn
     ·exact .inl h
     ·exact .inr h
    obtain ⟨P,hP⟩:∃P,P=parts (qa,qb,qn):=⟨_,rfl⟩
    have hPl:P.length≤2:=by rw [hP];exact parts_len _
    have HPP:=Lib.hid hP
    have HF:=Lib.hid (show (put L j P).flatMap fullF=L.flatMap fullF by rw [hP,←hq];exact put_full hjl (by rw [hq];exact hqn))
    have HWT:=Lib.hid (show ((put L j P).map wt).sum < (L.map wt).sum by rw [hP,←hq];exact put_wt hjl (by rw [hq];exact hqn))
    have HGA:=Lib.hid (show grow L j P m=put L j P by rw [HM.out];exact grow_all P hjl)
    obtain ⟨wz,hwz⟩:∃wz,wz=wr:=⟨_,rfl⟩
    rw [←hwz] at HJ ⊢
    have HBW:=Lib.hid (H.out.2.2.2.2.2.1.trans (HJ.out.mono H.out.2.2.2.2.2.1.size))
    have HRZ:=Lib.hid ((H.out.2.2.1.below HJ.out).more HJ.out.size)
    obtain ⟨base,hbase⟩:∃b,b=wz.heap.size:=⟨_,rfl⟩
    rw [←hbase] at HRZ
    have HBZ:base≤wz.heap.size:=by omega
    have HBE:=Lib.hid hbase
    clear hwz hP hq hqn hjl hbase HC
    by_cases hkm:k < m
    all_goals
     go_wp2_with fail
     go_loopw [12,13] (fun v i wx=>∃t:Nat,t≤m∧i=.int .i64 t∧Hid (wx.ownsRow base 21 1 v (grow L j P t).length (nums (grow L j P t))∧Below base wz wx)) (fun _ i _=>m - (intOf i).toNat)
     case atStart=>exact ⟨0,Nat.zero_le _,rfl,Lib.hid ⟨by rw [show grow L j P 0=[] by unfold grow;rw [if_pos (Nat.zero_le _)];rfl];exact World.ownsRow_nil _ _ _ _,Below.refl _ _⟩⟩
     case round =>
      rename_i v12 _
      obtain ⟨t,ht,rfl,HO⟩:=hrel
      have hgl:=grow_len L j P hPl t
      by_cases htm:t < m
      ·have htl:t < L.length:=by rw [←HM.out];exact htm
       by_cases htj:t=j
       ·have hjt:j=t:=htj.symm
        clear htj
        subst hjt
        clear htl
        rcases hn2 with rfl | rfl
        ·go_wp2_with (at_builtin;refine wpList_append_rd _ rfl (.tmp 62) (.tmp 64) _ rfl base 21 i0 _ 1 4 Tryd.underlying35 hi hz0 hz1 hz2 rfl (by decide) _ (grow L j P j).length (nums (grow L j P j)) rfl (HO.out.1.alloc _) _ (some ⟨wr.heap.size,0,none⟩) 1 1 [.int .i32 qa] rfl rfl (rd_new _ _ [.int .i32 qa] _ rfl) (nums_one [qa]) (by unfold maxLen;omega) (by omega) (by have:=HO.out.2.size;simp;omega) ?_;intro v6 w6 hown6 hgr6 _)
         have HZ:=Lib.hid (show w6.ownsRow base 21 1 v6 (grow L j P (j+1)).length (nums (grow L j P (j+1)))∧Below base wz w6 from ⟨own_cast hown6 (X:=[qa]) (by rw [grow_at,HPP.out];rfl),Below.grown (HO.out.2.alloc (Nat.le_trans HBZ HO.out.2.size) _) hgr6 (by have:=HO.out.2.size;simp;omega) (fun y hy=>(HO.out.1.lt y hy).1)⟩)
         clear hown6 hgr6
         go_roundw
         case rel=>exact ⟨j+1,by omega,by go_num,HZ⟩
         case measure=>simp [intOf];omega
        ·go_wp2_with (at_builtin;refine wpList_append_rd _ rfl (.tmp 66) (.tmp 69) _ rfl base 21 i0 _ 1 4 Tryd.underlying35 hi hz0 hz1 hz2 rfl (by decide) _ (grow L j P j).length (nums (grow L j P j)) rfl (HO.out.1.alloc _) _ (some ⟨wr.heap.size,0,none⟩) 2 2 [.int .i32 qa,.int .i32 qb] rfl rfl (rd_new _ _ [.int .i32 qa,.int .i32 qb] _ rfl) (nums_one [qa,qb]) (by unfold maxLen;omega) (by omega) (by have:=HO.out.2.size;simp;omega) ?_;intro v6 w6 hown6 hgr6 _)
         have HZ:=Lib.hid (show w6.ownsRow base 21 1 v6 (grow L j P (j+1)).length (nums (grow L j P (j+1)))∧Below base wz w6 from ⟨own_cast hown6 (X:=[qa,qb]) (by rw [grow_at,HPP.out];rfl),Below.grown (HO.out.2.alloc (Nat.le_trans HBZ HO.out.2.size) _) hgr6 (by have:=HO.out.2.size;simp;omega) (fun y hy=>(HO.out.1.lt y hy).1)⟩)
         clear hown6 hgr6
         go_roundw
         case rel=>exact ⟨j+1,by omega,by go_num,HZ⟩
         case measure=>simp [intOf];omega
       ·have htj':((t:Int) != (j:Int))=true:=by simp;omega
        obtain ⟨b,o,rfl,hbH⟩:=HRZ.out.form (by rw [nums_len];omega)
        have hcell:wr.cell? ⟨b,o+t,none⟩=some (.int .i32 L[t]):=(HRZ.out.below HO.out.2).num htl
        have HG:=Lib.hid (grow_other P htl htj)
        generalize L[t]=x at hcell HG
        clear htj htl
        go_wp2_with (at_builtin;refine wpList_append_rd _ rfl (.tmp 53) (.tmp 58) _ rfl base 21 i0 _ 1 4 Tryd.underlying35 hi hz0 hz1 hz2 rfl (by decide) _ (grow L j P t).length (nums (grow L j P t)) rfl (HO.out.1.alloc _) _ (some ⟨wr.heap.size,0,none⟩) 1 1 [.int .i32 x] rfl rfl (rd_new _ _ [.int .i32 x] _ rfl) (nums_one [x]) (by unfold maxLen;omega) (by omega) (by have:=HO.out.2.size;simp;omega) ?_;intro v6 w6 hown6 hgr6 _)
        have HZ:=Lib.hid (show w6.ownsRow base 21 1 v6 (grow L j P (t+1)).length (nums (grow L j P (t+1)))∧Below base wz w6 from ⟨own_cast hown6 (X:=[x]) HG.out.symm,Below.grown (HO.out.2.alloc (Nat.le_trans HBZ HO.out.2.size) _) hgr6 (by have:=HO.out.2.size;simp;omega) (fun y hy=>(HO.out.1.lt y hy).1)⟩)
        clear hown6 hgr6
        go_roundw
        case rel=>exact ⟨t+1,by omega,by go_num,HZ⟩
        case measure=>simp [intOf];omega
      ·obtain rfl:t=m:=by omega
       have HO1:=Lib.hid HO.out.1
       rw [HGA.out] at HO1
       obtain ⟨A6,c6,rfl,h6a,h6b,hr6⟩:=own_form HO1.out
       have H6:=Lib.hid (And.intro h6a (And.intro h6b hr6))
       have HN6:=Lib.hid (show ∀b o,A6=some ⟨b,o,none⟩→w.heap.size≤b from fun b o h=>by
        subst h
        have h1:=(HO1.out.lt b rfl).1
        have h2:=HBW.out.size
        have h3:=HBE.out
        omega)
       have HB6:=Lib.hid (HBW.out.trans (Below.mono (Below.trans (Below.refl _ _) HO.out.2) (Nat.le_trans HBW.out.size (Nat.le_of_eq HBE.out.symm))))
       clear h6a h6b hr6 hgl
       go_wp2_with fail
       go_roundg (((put L j P).map wt).sum)
       case measure=>exact Nat.lt_of_lt_of_le HWT.out H.out.2.2.2.2.1
       case rel=>exact ⟨put L j P,(put L j P).length,A6,c6,rfl,Lib.hid rfl,Lib.hid ⟨H6.out.1,H6.out.2.1,H6.out.2.2,by rw [HF.out];exact H.out.2.2.2.1,Nat.le_refl _,HB6.out,HN6.out⟩⟩
theorem rdec_any (r:Int) (w:World):Calls Tryd.prog 28 #[.int .i32 r] w (New w (fullF r)) :=
 (rdec_new r w).mono fun _ _ ⟨A,c,h1,h2,h3,h4,h5,_⟩=>⟨A,c,h1,h2,h3,h4,h5⟩
set_option maxHeartbeats 4000000 in
theorem ropens_any (r:Int) (w:World):Calls Tryd.prog 15 #[.int .i32 r] w (Ret w (.bool (opn r))):=by
 have HC:=Lib.hid (rdec_any r w)
 have h1:=full_some r
 have HO:=Lib.hid (show opn r=(cls (fstF r) == 0 && !trl (fstF r)) from rfl)
 have hf:fstF r=(fullF r).headD 0:=rfl
 rw [hf] at HO
 clear hf
 generalize fullF r=d at HC h1 HO
 obtain ⟨x,t,rfl⟩:∃x t,d=x :: t:=by cases d with
  | nil=>simp at h1
  | cons x t=>exact ⟨x,t,rfl⟩
 have HX:=Lib.hid (show opn r=(cls x == 0 && !trl x) from HO.out)
 clear HO
 go_enter Tryd.func15,Tryd.ntmps15
 go_wp2_with fail
 refine HC.out.mono ?_
 rintro e w2 ⟨A2,c2,rfl,g1,g2,hr2,hb2⟩
 obtain ⟨b2,o2,rfl,_⟩:=hr2.form (by rw [nums_len];exact h1)
 have k0:w2.cell? ⟨b2,o2,none⟩=some (.int .i32 x):=by have:=hr2.num (l:=x :: t) (k:=0) (by simp);simpa using this
 have HB:=Lib.hid hb2
 obtain ⟨m,hm⟩:∃m,m=(x :: t).length:=⟨_,rfl⟩
 rw [←hm] at h1 g1 ⊢
 have hm0:0 < m:=h1
 clear hb2 hr2 hm HC
 by_cases hc:cls x=0
 ·have HR:=Lib.hid (show opn r=!trl x by rw [HX.out,hc];rfl)
  have HCC:=Lib.hid hc
  clear hc
  go_wp2_with fail
  refine (rclass_any x _).mono ?_
  rintro e w' ⟨rfl,rfl⟩
  rw [HCC.out]
  go_wp2_with fail
  refine (rtrailing_any x _).mono ?_
  rintro e w' ⟨rfl,rfl⟩
  go_wp2_with fail
  go_ret
  exact ⟨ret_bool HR.out.symm,HB.out⟩
 ·have hc':(cls x == 0)=false:=by simpa using hc
  have HR:=Lib.hid (show opn r=false by rw [HX.out,hc'];rfl)
  clear hc
  go_wp2_with fail
  refine (rclass_any x _).mono ?_
  rintro e w' ⟨rfl,rfl⟩
  go_wp2_with fail
  go_ret
  exact ⟨ret_bool HR.out.symm,HB.out⟩
end Go.Proofs.YtdngaddggcmjgaaDoor.Ucd
