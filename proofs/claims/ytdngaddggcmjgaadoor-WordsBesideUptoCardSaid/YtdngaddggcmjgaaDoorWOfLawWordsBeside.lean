/-
  Whatever bytes there are: two texts with a blank between have the words of both, one behind the other, unless one of them has a segment that is too long or the second begins within a segment. Conditions: the arguments hold at most 1048576 values; the package's tables are laid as the program's text lays them (tied).
-/
import Derived.Deep.SlicePairs
import Derived.BigRegion
import Derived.BigQuiet
import Derived.Deep.QuietTactic
import Derived.Test.YtdngaddggcmjgaaDoorW17
import Derived.Test.YtdngaddggcmjgaaDoorW21
import Derived.Test.YtdngaddggcmjgaaDoorW22
import Derived.Test.YtdngaddggcmjgaaDoorW23
import Derived.Test.YtdngaddggcmjgaaDoorW24
namespace Go.Proofs.YtdngaddggcmjgaaDoor.LawWordsBeside
open Go.ChangeShapes Go.WideShapes Go.ChangeAt Go.RowKit
open Utf hiding infoI32 rd_new own_form own_below rdec_any below_drewN new_any write_any close_any infoU8
open Ucd hiding grow same Told grp
open Norm hiding new_any write_any close_any
open Seg
open Words
theorem own_mt (u:World) (base g:Nat) (hb:base≤u.heap.size) (hg:g=u.heap.size):(u.alloc (.cells #[] 5)).ownsRow base 5 1 (.slice (some ⟨g,0,none⟩) 0 0) 0 []:=by
 subst hg
 exact ⟨rfl,.inr ⟨u.heap.size,0,#[],rfl,hb,heap_alloc_new u _,Nat.le_refl _,by simp [maxLen],by simp,by simp⟩⟩
theorem own_mts (u:World) (base g:Nat) (hb:base≤u.heap.size) (hg:g=u.heap.size):(u.alloc (.cells #[] 9)).ownsRow base 9 1 (.slice (some ⟨g,0,none⟩) 0 0) 0 []:=by
 subst hg
 exact ⟨rfl,.inr ⟨u.heap.size,0,#[],rfl,hb,heap_alloc_new u _,Nat.le_refl _,by simp [maxLen],by simp,by simp⟩⟩
def kys (l:List Wd):List ByteArray:=l.map fun x=>⟨x.k.toArray⟩
theorem kys_len (l:List Wd):(kys l).length=l.length:=List.length_map _
set_option maxHeartbeats 8000000 in
set_option maxRecDepth 100000 in
theorem keys_any (A:Option Addr) (l:List Wd) (n c:Nat) (w:World) (hr:Rd w w.heap.size A (wds l)) (hn:l.length=n) (hsm:n≤4294967296) :
  Calls Tryd.prog 16 #[.slice A n c] w fun e w'=>∃v,e=.returned v∧w'.ownsRow w.heap.size 9 1 v n (Seg.strs (kys l))∧Below w.heap.size w w':=by
 obtain ⟨i1,hi',hy0,hy1,hy2⟩:=info_parts infoStr
 have HR:=Lib.hid hr
 have HN:=Lib.hid hn
 obtain ⟨B0,hB0⟩:∃B0,B0=w.heap.size:=⟨_,rfl⟩
 have HB0:=Lib.hid hB0
 rw [←hB0] at HR ⊢
 clear hr hn hB0
 go_enter Tryd.func16,Tryd.ntmps16
 go_wp2_with fail
 go_loopw [3,8] (fun vo i wr=>∃k:Nat,k≤n∧i=.int .i64 k∧Hid (wr.ownsRow B0 9 1 vo k (Seg.strs (kys (l.take k))))∧Hid (Below B0 w wr)) (fun _ i _=>n - (intOf i).toNat)
 case atStart=>exact ⟨0,Nat.zero_le _,rfl,Lib.hid (by rw [List.take_zero];exact World.ownsRow_nil _ _ _ _),Lib.hid (Below.refl _ _)⟩
 case round =>
  obtain ⟨k,hk,rfl,HO,HB⟩:=hrel
  by_cases hlt:k < n
  ·have hkl:k < l.length:=by rw [HN.out];exact hlt
   obtain ⟨b,o,rfl,hbl⟩:=HR.out.form (by rw [wds_len];omega)
   have cc:=Rd_wd (HR.out.below HB.out) hkl
   have a0:=cc 0 (by omega);have a1:=cc 1 (by omega);have a2:=cc 2 (by omega);have a3:=cc 3 (by omega);have a4:=cc 4 (by omega)
   simp only [rowW,Nat.add_zero,List.getElem?_cons_zero,List.getElem?_cons_succ] at a0 a1 a2 a3 a4
   have HTK:=Lib.hid (show Seg.strs (kys (l.take (k+1)))=Seg.strs (kys (l.take k))++[Value.string ⟨l[k].k.toArray⟩] by
    rw [List.take_succ_eq_append_getElem hkl,kys,List.map_append,Seg.strs_append];rfl)
   generalize (⟨l[k].k.toArray⟩:ByteArray)=x at a0 HTK
   generalize l[k].f=x1 at a1
   generalize l[k].g=x2 at a2
   generalize l[k].a=x3 at a3
   generalize l[k].e=x4 at a4
   have hbw:B0≤wr.heap.size:=by have:=HB.out.size;have:=HB0.out;omega
   have hbr:b < wr.heap.size:=by omega
   clear cc hkl
   go_wp2_with (at_builtin;refine wpList_append_rd _ rfl (.tmp 12) (.tmp 15) _ rfl B0 9 i1 _ 1 16 Tryd.underlying38 hi' hy0 hy1 hy2 rfl (by decide) u3 k (Seg.strs (kys (l.take k))) rfl ((HO.out.alloc _).alloc _) _ (some ⟨wr.heap.size+1,0,none⟩) 1 1 [.string x] rfl rfl (rd_new _ _ [.string x] _ (by simp)) (by simp [Value.oneCell']) (by unfold maxLen;omega) (by omega) (by simp;omega) ?_;intro v6 w6 hown6 hgr6 _)
   have HO6:=Lib.hid (show w6.ownsRow B0 9 1 v6 (k+1) (Seg.strs (kys (l.take (k+1)))) by rw [HTK.out];exact hown6)
   have HB6:=Lib.hid (((HB.out.alloc hbw _).alloc (by simp;omega) _).grown hgr6 (by simp;omega) (fun g hg=>(HO.out.lt g hg).1))
   clear hown6 hgr6 HO HB HTK
   go_roundw
   case rel=>exact ⟨k+1,by omega,by go_num,HO6,HB6⟩
   case measure=>simp [intOf];omega
  ·rw [show k=n by omega] at HO
   rw [show l.take n=l from List.take_of_length_le (by rw [HN.out];exact Nat.le_refl _)] at HO
   go_wp2_with fail
   go_ret
   exact ⟨_,rfl,HO.out,HB.out⟩
theorem neq_sp (w:World) (f g s e f' g' s' e':Int):(binOp .neq 31 (.agg #[.int .i64 f,.int .i64 g,.int .i64 s,.int .i64 e]) (.agg #[.int .i64 f',.int .i64 g',.int .i64 s',.int .i64 e'])).run Tryd.prog w=.ok (.bool (!(f == f' && g == g' && s == s' && e == e'))) w:=by
 have u3:=Tryd.underlying3
 have a3:=Tryd.isAgg3
 have z3:=Tryd.sizeOf3
 rw [run_neq_struct,show (10000:Nat)=9999+1 from rfl,run_equalIn_agg w 9999 _ _ _ spFields spHeld]
 simp only [Program.fieldsOf,Tryd.underlying31]
 go_simp
 by_cases h2:f=f' <;> by_cases h3:g=g' <;> by_cases h4:s=s' <;> by_cases h5:e=e' <;> simp_all
structure Both (S T U:List Wd) (j:Nat) (d:Int):Prop where
 len:U.length=S.length+T.length
 left:∀i (h:i < S.length) (h2:i < U.length),U[i]=S[i]
 right:∀i (h:i < T.length) (h2:S.length+i < U.length),U[S.length+i].k=T[i].k∧U[S.length+i].a=T[i].a+d
 keys:∀i (h:i < U.length) (h2:i < (kys (S++T)).length),(kys (S++T))[i]=⟨U[i].k.toArray⟩
theorem both_of (S T:List Wd) (n:Nat) (d:Int):Both S T (S++T.map (mvW n d)) n d:=by
 refine ⟨by simp,fun i h h2=>List.getElem_append_left h,fun i h h2=>?_,fun i h h2=>?_⟩
 ·rw [List.getElem_append_right (by omega)]
  simp [mvW]
 ·simp only [kys,List.map_append,List.getElem_append,List.length_map,List.getElem_map]
  split
  ·rfl
  ·simp [mvW]
set_option maxHeartbeats 16000000 in
set_option maxRecDepth 100000 in
theorem walk (A:Option Addr) (a:List UInt8) (n c:Nat) (B:Option Addr) (b:List UInt8) (m d:Nat) (w:World) (hL:Laid w) (hra:Rd w w.heap.size A (bys a)) (hn:a.length=n) (hc:n≤c) (hcm:c≤9223372036854775807)
  (hrb:Rd w w.heap.size B (bys b)) (hm:b.length=m) (hd:m≤d) (hdm:d≤9223372036854775807) (hsn:n≤1048576) (hsm:m≤1048576) :
  Calls Tryd.prog 7 #[.slice A n c,.slice B m d] w (Law w):=by
 obtain ⟨i0,hi,hz0,hz1,hz2⟩:=info_parts infoU8
 obtain ⟨i1,hi',hy0,hy1,hy2⟩:=info_parts infoStr
 have HF:=Lib.hid (fixed_any w hL)
 have HL:=Lib.hid hL
 have HRA:=Lib.hid hra
 have HRB:=Lib.hid hrb
 have HN:=Lib.hid hn
 have HM:=Lib.hid hm
 have HRN:=Lib.hid (fun (u:World) (h:Rd u u.heap.size B (bys b))=>rrunes_any B b m d u h hm (by omega))
 have H1:=Lib.hid (fun (u:World) (hu:Laid u) (h:Rd u u.heap.size A (bys a))=>words_any 64 a A n c u hu h hn hc hcm (by omega))
 have H2:=Lib.hid (fun (u:World) (hu:Laid u) (h:Rd u u.heap.size B (bys b))=>words_any 64 b B m d u hu h hm hd hdm (by omega))
 have H3:=Lib.hid (fun (A':Option Addr) (c':Nat) (h1:n+1+m≤c') (h2:c'≤9223372036854775807) (u:World) (hu:Laid u) (h:Rd u u.heap.size A' (bys (a++[32]++b)))=>words_any 64 (a++[32]++b) A' (n+1+m) c' u hu h (by rw [List.length_append,List.length_append,hn,hm];rfl) h1 h2 (by omega))
 have HWB:=Lib.hid (fun (h1:spE 64 a=0) (h2:spE 64 b=0) (ho:∀r t,runesF b=r :: t→opn r=true)=>words_beside h1 h2 ho)
 have hla:=words_len 64 a
 have hlb:=words_len 64 b
 have hlc:=words_len 64 (a++[32]++b)
 rw [hn] at hla
 rw [hm] at hlb
 rw [List.length_append,List.length_append,hn,hm,List.length_singleton] at hlc
 have hrl:=runes_len b
 rw [hm] at hrl
 have HAT:=Lib.hid (fun (i:Nat) (h:i < (wordsF 64 b).length)=>(show 0≤(wordsF 64 b)[i].a∧(wordsF 64 b)[i].a≤m by
  obtain ⟨_,_,h3,h4,h5⟩:=(apart_facts b (wordsF 64 b) rfl).1 i h
  rw [hm] at h4
  exact ⟨h5,by omega⟩))
 unfold WordsAns at H1 H2 H3
 generalize wordsF 64 (a++[32]++b)=U at H3 HWB hlc
 generalize wordsF 64 a=S at H1 HWB hla
 generalize wordsF 64 b=T at H2 HWB hlb HAT
 generalize spE 64 (a++[32]++b)=E3 at H3 HWB
 generalize spE 64 a=E1 at H1 HWB
 generalize spE 64 b=E2 at H2 HWB
 generalize runesF b=R at HRN HWB hrl
 obtain ⟨rl,hrl2⟩:∃rl,rl=R.length:=⟨_,rfl⟩
 rw [←hrl2] at hrl
 have HRL:=Lib.hid hrl2
 obtain ⟨sl,hsl⟩:∃sl,sl=S.length:=⟨_,rfl⟩
 rw [←hsl] at hla
 have HSL:=Lib.hid hsl
 obtain ⟨tl,htl⟩:∃tl,tl=T.length:=⟨_,rfl⟩
 rw [←htl] at hlb
 have HTL:=Lib.hid htl
 obtain ⟨ul,hul⟩:∃ul,ul=U.length:=⟨_,rfl⟩
 rw [←hul] at hlc
 have HUL:=Lib.hid hul
 clear hL hra hrb hn hm hrl2 hsl htl hul
 go_enter Tryd.func7,Tryd.ntmps7
 go_wp2_with fail
 refine HF.out.mono ?_
 rintro e w1 ⟨rfl,hb1⟩
 have HB1:=Lib.hid hb1
 clear hb1 HF
 go_wp2_with fail
 refine (HRN.out w1 ((HRB.out.below HB1.out).more HB1.out.size)).mono ?_
 rintro e w2 ⟨v2,rfl,ho2,hb2⟩
 rw [←HRL.out] at ho2
 obtain ⟨A2,c2,rfl,_,_,hr2⟩:=own_form ho2
 have HB2:=Lib.hid (HB1.out.trans (hb2.mono HB1.out.size))
 have HR2:=Lib.hid hr2
 clear ho2 hr2 hb2 HRN
 have hrc:(R=[]∧rl=0)∨(∃x t,R=x :: t∧0 < rl∧opn x=false)∨∃x t,R=x :: t∧0 < rl∧opn x=true:=by
  have:=HRL.out
  cases R with
  | nil=>exact .inl ⟨rfl,by simpa using this⟩
  | cons x t =>
   have h0:0 < rl:=by simp at this;omega
   cases hop:opn x with
   | false=>exact .inr (.inl ⟨x,t,rfl,h0,hop⟩)
   | true=>exact .inr (.inr ⟨x,t,rfl,h0,hop⟩)
 rcases hrc with ⟨hR,hr0⟩ | ⟨x,t,hR,hr0,hop⟩ | ⟨x,t,hR,hr0,hop⟩
 focus
  have HOO:=Lib.hid (show ∀r t,R=r :: t→opn r=true from fun r t h=>by rw [hR] at h;cases h)
  have d2:decide ((0:Int) < (rl:Int))=false:=decide_eq_false (by omega)
  have d1:decide (0 < rl)=false:=decide_eq_false (by omega)
  clear hR hr0
  go_wp2_with fail
  obtain ⟨wk,hwk⟩:∃wk,wk=w2:=⟨_,rfl⟩
  rw [←hwk] at HB2 ⊢
  have HWK:=HB2
  clear d2 d1 hwk HB2 HR2
 rotate_left
 ·obtain ⟨b0,o0,rfl,hbl⟩:=HR2.out.form (by rw [nums_len,←HRL.out];exact hr0)
  have hx2:w2.cell? ⟨b0,o0,none⟩=some (.int .i32 x):=by
   have h:=HR2.out.num (k:=0) (by rw [←HRL.out];exact hr0)
   simp only [Nat.add_zero] at h
   rw [h]
   subst hR
   rfl
  have d2:decide ((0:Int) < (rl:Int))=true:=decide_eq_true (by omega)
  have d1:decide (0 < rl)=true:=decide_eq_true hr0
  have HOPN:=Lib.hid (ropens_any x w2)
  rw [hop] at HOPN
  clear hR hop
  go_wp2_with fail
  refine HOPN.out.mono ?_
  rintro e w3 ⟨rfl,hb3⟩
  have HB3:=Lib.hid (HB2.out.trans (hb3.mono HB2.out.size))
  clear hb3 HOPN HR2
  go_wp2_with fail
  go_ret
  exact ⟨rfl,HB3.out⟩
 focus
  obtain ⟨b0,o0,rfl,hbl⟩:=HR2.out.form (by rw [nums_len,←HRL.out];exact hr0)
  have hx2:w2.cell? ⟨b0,o0,none⟩=some (.int .i32 x):=by
   have h:=HR2.out.num (k:=0) (by rw [←HRL.out];exact hr0)
   simp only [Nat.add_zero] at h
   rw [h]
   subst hR
   rfl
  have d2:decide ((0:Int) < (rl:Int))=true:=decide_eq_true (by omega)
  have d1:decide (0 < rl)=true:=decide_eq_true hr0
  have HOPN:=Lib.hid (ropens_any x w2)
  rw [hop] at HOPN
  have HOO:=Lib.hid (show ∀r t,R=r :: t→opn r=true from fun r t' h=>by rw [hR] at h;injection h with h1 _;rw [←h1];exact hop)
  clear hR hop
  go_wp2_with fail
  refine HOPN.out.mono ?_
  rintro e w3 ⟨rfl,hb3⟩
  have HB3:=Lib.hid (HB2.out.trans (hb3.mono HB2.out.size))
  clear hb3 HOPN HR2
  go_wp2_with fail
  obtain ⟨wk,hwk⟩:∃wk,wk=w3:=⟨_,rfl⟩
  rw [←hwk] at HB3 ⊢
  have HWK:=HB3
  clear d2 d1 hwk HB2 HB3 hx2
 all_goals
  refine (H1.out wk (HL.out.next HWK.out) ((HRA.out.below HWK.out).more HWK.out.size)).mono ?_
  rintro e w4 ⟨v4,rfl,ho4,hb4⟩
  rw [←HSL.out] at ho4
  obtain ⟨A4,c4,rfl,_,_,hr4⟩:=own_form ho4
  have HB4:=Lib.hid (HWK.out.trans (hb4.mono HWK.out.size))
  have HR4:=Lib.hid hr4
  clear ho4 hr4 hb4 H1 HWK
  go_wp2_with fail
  refine (H2.out w4 (HL.out.next HB4.out) ((HRB.out.below HB4.out).more HB4.out.size)).mono ?_
  rintro e w5 ⟨v5,rfl,ho5,hb5⟩
  rw [←HTL.out] at ho5
  obtain ⟨A5,c5,rfl,_,_,hr5⟩:=own_form ho5
  have HB5:=Lib.hid (HB4.out.trans (hb5.mono HB4.out.size))
  have HR5:=Lib.hid hr5
  have HR45:=Lib.hid ((HR4.out.below hb5).more hb5.size)
  clear ho5 hr5 hb5 H2 HB4 HR4
  have hs5:w.heap.size≤w5.heap.size:=HB5.out.size
  go_wp2_with (first
   | (at_builtin;refine wpList_append_rd _ rfl (.tmp 40) (.tmp 41) _ rfl w5.heap.size 5 i0 _ 1 1 Tryd.underlying22 hi hz0 hz1 hz2 rfl (by decide) (.slice (some ⟨w5.heap.size,0,none⟩) 0 0) 0 [] rfl (own_mt w5 w5.heap.size w5.heap.size (Nat.le_refl _) rfl) w.heap.size A n c (bys a) rfl (by rw [bys_len,HN.out,Nat.mul_one]) ((HRA.out.below HB5.out).alloc hs5 _) (bys_one _) (by unfold maxLen;omega) (by omega) (by simp) ?_;intro v6 w6 hown6 hgr6 hat6;simp only [Nat.zero_add,List.nil_append] at hown6;obtain ⟨A6,c6,rfl,_⟩:=own_form hown6;have hs6:=hgr6.size;have HO6:=Lib.hid hown6;have HB56:=Lib.hid (((Below.refl w5.heap.size w5).alloc (Nat.le_refl _) (.cells #[] 5)).grown hgr6 (by simp) (fun g hg=>by injection hg with hg;simp at hg;omega));clear hown6 hgr6 hat6)
   | (at_builtin;refine wpList_append_rd _ rfl (.tmp 42) (.tmp 43) _ rfl w5.heap.size 5 i0 _ 1 1 Tryd.underlying22 hi hz0 hz1 hz2 rfl (by decide) (.slice A6 n c6) n (bys a) rfl (HO6.out.alloc _) _ (some ⟨w6.heap.size,0,none⟩) 1 1 [.int .u8 32] rfl rfl (Utf.rd_new _ _ [.int .u8 32] _ rfl) (by simp [Value.oneCell']) (by unfold maxLen;omega) (by omega) (by simp at hs6 ⊢;omega) ?_;intro v7 w7 hown7 hgr7 hat7;have hown7':w7.ownsRow w5.heap.size 5 1 v7 (n+1) (bys (a++[32])):=(by rw [bys_append];exact hown7);obtain ⟨A7,c7,rfl,_⟩:=own_form hown7';have HB57:=Lib.hid ((HB56.out.alloc (by simp at hs6;omega) (.cells #[.int .u8 32] 5)).grown hgr7 (by simp at hs6 ⊢;omega) (fun g hg=>(HO6.out.lt g hg).1));have HO7:=Lib.hid hown7';clear hown7 hown7' hgr7 hat7)
   | (at_builtin;refine wpList_append_rd _ rfl (.tmp 44) (.tmp 45) _ rfl w5.heap.size 5 i0 _ 1 1 Tryd.underlying22 hi hz0 hz1 hz2 rfl (by decide) (.slice A7 (n+1) c7) (n+1) (bys (a++[32])) rfl HO7.out w.heap.size B m d (bys b) rfl (by rw [bys_len,HM.out,Nat.mul_one]) (HRB.out.below (HB5.out.trans (HB57.out.mono HB5.out.size))) (bys_one _) (by unfold maxLen;omega) (by omega) HB57.out.size ?_;intro v8 w8 hown8 hgr8 hat8;have hown8':w8.ownsRow w5.heap.size 5 1 v8 (n+1+m) (bys (a++[32]++b)):=(by rw [bys_append];exact hown8);obtain ⟨A8,c8,rfl,hc8,hcm8,hr8⟩:=own_form hown8';have HB58:=Lib.hid (HB57.out.grown hgr8 HB57.out.size (fun g hg=>(HO7.out.lt g hg).1));have HR8:=Lib.hid hr8;have HC8:=Lib.hid hc8;clear hown8 hown8' hgr8 hat8 hr8 hc8))
  have HBW8:=Lib.hid (HB5.out.trans (HB58.out.mono HB5.out.size))
  refine (H3.out A8 c8 HC8.out hcm8 w8 (HL.out.next HBW8.out) HR8.out).mono ?_
  rintro e w9 ⟨v9,rfl,ho9,hb9⟩
  rw [←HUL.out] at ho9
  obtain ⟨A9,c9,rfl,_,_,hr9⟩:=own_form ho9
  have HB9:=Lib.hid (HBW8.out.trans (hb9.mono HBW8.out.size))
  have HR9:=Lib.hid hr9
  have hb59:Below w5.heap.size w5 w9:=HB58.out.trans (hb9.mono HB58.out.size)
  have HR49:=Lib.hid ((HR45.out.below hb59).more hb59.size)
  have HR59:=Lib.hid ((HR5.out.below hb59).more hb59.size)
  clear ho9 hr9 hb9 H3 HB56 HB57 HB58 HO6 HO7 HR8 HC8 HR45 HR5 hb59 hs6 HBW8 HB5 hs5
  by_cases he1:E1=0
  rotate_left
  ·have q1:(E1 != 0)=true:=by simpa using he1
   have q2:(E1 == 0)=false:=by simpa using he1
   clear he1
   go_wp2_with fail
   go_ret
   exact ⟨rfl,HB9.out⟩
  by_cases he2:E2=0
  rotate_left
  ·have q1:(E2 != 0)=true:=by simpa using he2
   have q2:(E2 == 0)=false:=by simpa using he2
   subst he1
   clear he2
   go_wp2_with fail
   go_ret
   exact ⟨rfl,HB9.out⟩
  obtain ⟨he3,hU⟩:=HWB.out he1 he2 HOO.out
  rw [HN.out] at hU
  have HBO:=Lib.hid (show Both S T U ((okS 64 a).length+1) (n+1) by rw [hU];exact both_of S T _ _)
  have hut:ul=sl+tl:=by rw [HUL.out,HSL.out,HTL.out,HBO.out.len]
  subst he1 he2 he3 hut
  clear hU HWB
  have q3:(((sl+tl:Nat):Int) == ((sl:Int)+(tl:Int)))=true:=by simp
  have q4:(((sl+tl:Nat):Int) != ((sl:Int)+(tl:Int)))=false:=by simp
  go_wp2_with fail
  go_loopw [70] (fun vi wr=>∃k:Nat,k≤sl+tl∧vi=.int .i64 k∧Hid (Below w9.heap.size w9 wr)) (fun vi _=>sl+tl - (intOf vi).toNat)
  case atStart=>exact ⟨0,Nat.zero_le _,rfl,Lib.hid (Below.refl _ _)⟩
  case round =>
   obtain ⟨k,hk,rfl,HB⟩:=hrel
   have HBW:=Lib.hid (HB9.out.trans (HB.out.mono HB9.out.size))
   by_cases hlt:k < sl+tl
   ·have hku:k < U.length:=by rw [←HUL.out];exact hlt
    obtain ⟨b9,o9,rfl,hb9⟩:=HR9.out.form (by rw [wds_len];omega)
    have cc:=Rd_wd (HR9.out.below HB.out) hku
    have a0:=cc 0 (by omega);have a1:=cc 1 (by omega);have a2:=cc 2 (by omega);have a3:=cc 3 (by omega);have a4:=cc 4 (by omega)
    simp only [rowW,Nat.add_zero,List.getElem?_cons_zero,List.getElem?_cons_succ] at a0 a1 a2 a3 a4
    have HK4:=Lib.hid (fun (u:World) (h:Below w9.heap.size w9 u)=>keys_any A4 S sl c4 u ((HR49.out.below h).more h.size) HSL.out.symm (by omega))
    have HK5:=Lib.hid (fun (u:World) (h:Below w9.heap.size w9 u)=>keys_any A5 T tl c5 u ((HR59.out.below h).more h.size) HTL.out.symm (by omega))
    have hkk:=HBO.out.keys k hku (by rw [kys_len,List.length_append,←HSL.out,←HTL.out];exact hlt)
    have HLEFT:=Lib.hid (fun h=>HBO.out.left k h hku)
    have HRIGHT:=Lib.hid (fun (i:Nat) (h:i < T.length) (e:k=S.length+i)=>(show U[k].k=T[i].k∧U[k].a=T[i].a+((n:Int)+1) by subst e;exact HBO.out.right i h hku))
    obtain ⟨x0,hx0⟩:∃x0:ByteArray,x0=⟨U[k].k.toArray⟩:=⟨_,rfl⟩
    rw [←hx0] at a0 hkk
    obtain ⟨x1,hx1⟩:∃x:Int,x=U[k].f:=⟨_,rfl⟩
    obtain ⟨x2,hx2⟩:∃x:Int,x=U[k].g:=⟨_,rfl⟩
    obtain ⟨x3,hx3⟩:∃x:Int,x=U[k].a:=⟨_,rfl⟩
    obtain ⟨x4,hx4⟩:∃x:Int,x=U[k].e:=⟨_,rfl⟩
    rw [←hx1] at a1
    rw [←hx2] at a2
    rw [←hx3] at a3
    rw [←hx4] at a4
    have HX:=Lib.hid (show x0=⟨U[k].k.toArray⟩∧x1=U[k].f∧x2=U[k].g∧x3=U[k].a∧x4=U[k].e from ⟨hx0,hx1,hx2,hx3,hx4⟩)
    have HKK:=Lib.hid hkk
    clear hx0 hx1 hx2 hx3 hx4 hkk
    have HBR:=Lib.hid (show Below wr.heap.size wr ((wr.alloc (.cells #[.string x0,.int .i64 x1,.int .i64 x2,.int .i64 x3,.int .i64 x4] 33)).alloc (.cells #[] 9)) from ((Below.refl _ _).alloc (Nat.le_refl _) _).alloc (by simp) _)
    have HBA:=Lib.hid (show Below w9.heap.size w9 ((wr.alloc (.cells #[.string x0,.int .i64 x1,.int .i64 x2,.int .i64 x3,.int .i64 x4] 33)).alloc (.cells #[] 9)) from HB.out.trans (HBR.out.mono HB.out.size))
    have HE10:=Lib.hid (show ((wr.alloc (.cells #[.string x0,.int .i64 x1,.int .i64 x2,.int .i64 x3,.int .i64 x4] 33)).alloc (.cells #[] 9)).ownsRow wr.heap.size 9 1 (.slice (some ⟨wr.heap.size+1,0,none⟩) 0 0) 0 [] from own_mts (wr.alloc (.cells #[.string x0,.int .i64 x1,.int .i64 x2,.int .i64 x3,.int .i64 x4] 33)) wr.heap.size (wr.heap.size+1) (by simp) (by simp))
    have XK10:=Lib.hid (show Blk ((wr.alloc (.cells #[.string x0,.int .i64 x1,.int .i64 x2,.int .i64 x3,.int .i64 x4] 33)).alloc (.cells #[] 9)) wr.heap.size 33 [.string x0,.int .i64 x1,.int .i64 x2,.int .i64 x3,.int .i64 x4] from (Blk.new wr _ [_,_,_,_,_]).alloc _)
    have hbr:b9 < wr.heap.size:=by have:=HB.out.size;omega
    by_cases hks:k < sl
    ·clear cc
     go_wp2_with (first
      | (go_at_call 16;(with_reducible refine (HK4.out ((wr.alloc (.cells #[.string x0,.int .i64 x1,.int .i64 x2,.int .i64 x3,.int .i64 x4] 33)).alloc (.cells #[] 9)) HBA.out).mono ?_);rintro e w11 ⟨v11,rfl,ho11,hb11⟩;obtain ⟨A11,c11,rfl,_,_,hr11⟩:=own_form ho11;have HR11:=Lib.hid hr11;have HE11:=Lib.hid (own_below HE10.out hb11);have HB11:=Lib.hid (HBR.out.trans (hb11.mono HBR.out.size));have XK11:=Lib.hid (XK10.out.below hb11 (by simp;omega));have hs11:=hb11.size;clear ho11 hb11 hr11)
      | (at_builtin;refine wpList_append_rd _ rfl (.tmp 75) (.tmp 77) _ rfl wr.heap.size 9 i1 _ 1 16 Tryd.underlying38 hi' hy0 hy1 hy2 rfl (by decide) (.slice (some ⟨wr.heap.size+1,0,none⟩) 0 0) 0 [] rfl HE11.out _ A11 sl c11 (Seg.strs (kys S)) rfl (by rw [Seg.strs_len,kys_len,←HSL.out,Nat.mul_one]) HR11.out (Seg.strs_one _) (by unfold maxLen;omega) (by omega) HB11.out.size ?_;intro v12 w12 hown12 hgr12 hat12;simp only [Nat.zero_add,List.nil_append] at hown12;obtain ⟨A12,c12,rfl,_⟩:=own_form hown12;have HO12:=Lib.hid hown12;have XK12:=Lib.hid (XK11.out.grown hgr12 (by simp [Value.ownBlock]));have HNE12:=Lib.hid (show some wr.heap.size≠(Value.slice A12 sl c12).ownBlock from fun e=>by rw [←e] at hat12;simp [Value.ownBlock] at hat12 hs11;omega);have HB12:=Lib.hid (HB11.out.grown hgr12 HB11.out.size (fun g hg=>(HE11.out.lt g hg).1));clear hown12 hgr12 hat12)
      | (go_at_call 16;(with_reducible refine (HK5.out w12 (HB.out.trans (HB12.out.mono HB.out.size))).mono ?_);rintro e w13 ⟨v13,rfl,ho13,hb13⟩;obtain ⟨A13,c13,rfl,_,_,hr13⟩:=own_form ho13;have HR13:=Lib.hid hr13;have HO13:=Lib.hid (own_below HO12.out hb13);have HB13:=Lib.hid (HB12.out.trans (hb13.mono HB12.out.size));have XK13:=Lib.hid (XK12.out.below hb13 XK12.out.lt);clear ho13 hb13 hr13)
      | (at_builtin;refine wpList_append_rd _ rfl (.tmp 78) (.tmp 80) _ rfl wr.heap.size 9 i1 _ 1 16 Tryd.underlying38 hi' hy0 hy1 hy2 rfl (by decide) (.slice A12 sl c12) sl (Seg.strs (kys S)) rfl HO13.out _ A13 tl c13 (Seg.strs (kys T)) rfl (by rw [Seg.strs_len,kys_len,←HTL.out,Nat.mul_one]) HR13.out (Seg.strs_one _) (by unfold maxLen;omega) (by omega) HB13.out.size ?_;intro v14 w14 hown14 hgr14 hat14;have hown14':w14.ownsRow wr.heap.size 9 1 v14 (sl+tl) (Seg.strs (kys (S++T))):=(by rw [kys,List.map_append,Seg.strs_append];exact hown14);obtain ⟨A14,c14,rfl,_,_,hr14⟩:=own_form hown14';have HR14:=Lib.hid hr14;have XK14:=Lib.hid (XK13.out.grown hgr14 HNE12.out);have HB14:=Lib.hid (HB13.out.grown hgr14 HB13.out.size (fun g hg=>(HO13.out.lt g hg).1));clear hown14 hown14' hgr14 hat14 hr14))
     have HB9W:=Lib.hid (HB.out.trans (HB14.out.mono HB.out.size))
     obtain ⟨b14,o14,rfl,hb14⟩:=HR14.out.form (by rw [Seg.strs_len,kys_len,List.length_append,←HSL.out,←HTL.out];omega)
     have y0:=Rd_str HR14.out (k:=k) (by rw [kys_len,List.length_append,←HSL.out,←HTL.out];exact hlt)
     rw [HKK.out] at y0
     have z0:=XK14.out.cell 0;have z1:=XK14.out.cell 1;have z2:=XK14.out.cell 2;have z3:=XK14.out.cell 3;have z4:=XK14.out.cell 4
     simp only [List.getElem?_cons_zero,List.getElem?_cons_succ] at z0 z1 z2 z3 z4
     have hq1:(x0.toList == x0.toList)=true:=by simp
     have hq0:(x0.toList != x0.toList)=false:=by simp
     obtain ⟨b4,o4,rfl,hb4⟩:=HR49.out.form (by rw [wds_len,←HSL.out];omega)
     have hkS:k < S.length:=by rw [←HSL.out];exact hks
     have dd:=Rd_wd (HR49.out.below HB9W.out) hkS
     have d1:=dd 1 (by omega);have d2:=dd 2 (by omega);have d3:=dd 3 (by omega);have d4:=dd 4 (by omega)
     simp only [rowW,List.getElem?_cons_zero,List.getElem?_cons_succ] at d1 d2 d3 d4
     have hus:=HLEFT.out hkS
     obtain ⟨_,e1,e2,e3,e4⟩:=HX.out
     simp only [hus] at e1 e2 e3 e4
     rw [←e1] at d1
     rw [←e2] at d2
     rw [←e3] at d3
     rw [←e4] at d4
     have hq':∀u:World,(binOp .neq 31 (.agg #[.int .i64 x1,.int .i64 x2,.int .i64 x3,.int .i64 x4]) (.agg #[.int .i64 x1,.int .i64 x2,.int .i64 x3,.int .i64 x4])).run Tryd.prog u=.ok (.bool false) u:=fun u=>by rw [neq_sp u];simp
     have i1:decide ((k:Int) < (sl:Int))=true:=decide_eq_true (by omega)
     have i2:decide (k < sl)=true:=decide_eq_true hks
     have i3:decide ((sl:Int)≤(k:Int))=false:=decide_eq_false (by omega)
     have i4:decide (sl≤k)=false:=decide_eq_false (by omega)
     have hb4w:b4 < w14.heap.size:=by have:=HB9W.out.size;omega
     clear e1 e2 e3 e4 hus dd hkS HKK HX HLEFT HRIGHT HK4 HK5 XK10 XK11 XK12 XK13 XK14 HE10 HE11 HO12 HO13 HR11 HR13 HBA HBR
     go_quiet (fail)
     go_wp2
     go_roundw
     case rel=>exact ⟨k+1,by omega,by go_num,Lib.hid (below_drewN HB9W.out _)⟩
     case measure=>simp [intOf];omega
    ·clear cc
     go_wp2_with (first
      | (go_at_call 16;(with_reducible refine (HK4.out ((wr.alloc (.cells #[.string x0,.int .i64 x1,.int .i64 x2,.int .i64 x3,.int .i64 x4] 33)).alloc (.cells #[] 9)) HBA.out).mono ?_);rintro e w11 ⟨v11,rfl,ho11,hb11⟩;obtain ⟨A11,c11,rfl,_,_,hr11⟩:=own_form ho11;have HR11:=Lib.hid hr11;have HE11:=Lib.hid (own_below HE10.out hb11);have HB11:=Lib.hid (HBR.out.trans (hb11.mono HBR.out.size));have XK11:=Lib.hid (XK10.out.below hb11 (by simp;omega));have hs11:=hb11.size;clear ho11 hb11 hr11)
      | (at_builtin;refine wpList_append_rd _ rfl (.tmp 75) (.tmp 77) _ rfl wr.heap.size 9 i1 _ 1 16 Tryd.underlying38 hi' hy0 hy1 hy2 rfl (by decide) (.slice (some ⟨wr.heap.size+1,0,none⟩) 0 0) 0 [] rfl HE11.out _ A11 sl c11 (Seg.strs (kys S)) rfl (by rw [Seg.strs_len,kys_len,←HSL.out,Nat.mul_one]) HR11.out (Seg.strs_one _) (by unfold maxLen;omega) (by omega) HB11.out.size ?_;intro v12 w12 hown12 hgr12 hat12;simp only [Nat.zero_add,List.nil_append] at hown12;obtain ⟨A12,c12,rfl,_⟩:=own_form hown12;have HO12:=Lib.hid hown12;have XK12:=Lib.hid (XK11.out.grown hgr12 (by simp [Value.ownBlock]));have HNE12:=Lib.hid (show some wr.heap.size≠(Value.slice A12 sl c12).ownBlock from fun e=>by rw [←e] at hat12;simp [Value.ownBlock] at hat12 hs11;omega);have HB12:=Lib.hid (HB11.out.grown hgr12 HB11.out.size (fun g hg=>(HE11.out.lt g hg).1));clear hown12 hgr12 hat12)
      | (go_at_call 16;(with_reducible refine (HK5.out w12 (HB.out.trans (HB12.out.mono HB.out.size))).mono ?_);rintro e w13 ⟨v13,rfl,ho13,hb13⟩;obtain ⟨A13,c13,rfl,_,_,hr13⟩:=own_form ho13;have HR13:=Lib.hid hr13;have HO13:=Lib.hid (own_below HO12.out hb13);have HB13:=Lib.hid (HB12.out.trans (hb13.mono HB12.out.size));have XK13:=Lib.hid (XK12.out.below hb13 XK12.out.lt);clear ho13 hb13 hr13)
      | (at_builtin;refine wpList_append_rd _ rfl (.tmp 78) (.tmp 80) _ rfl wr.heap.size 9 i1 _ 1 16 Tryd.underlying38 hi' hy0 hy1 hy2 rfl (by decide) (.slice A12 sl c12) sl (Seg.strs (kys S)) rfl HO13.out _ A13 tl c13 (Seg.strs (kys T)) rfl (by rw [Seg.strs_len,kys_len,←HTL.out,Nat.mul_one]) HR13.out (Seg.strs_one _) (by unfold maxLen;omega) (by omega) HB13.out.size ?_;intro v14 w14 hown14 hgr14 hat14;have hown14':w14.ownsRow wr.heap.size 9 1 v14 (sl+tl) (Seg.strs (kys (S++T))):=(by rw [kys,List.map_append,Seg.strs_append];exact hown14);obtain ⟨A14,c14,rfl,_,_,hr14⟩:=own_form hown14';have HR14:=Lib.hid hr14;have XK14:=Lib.hid (XK13.out.grown hgr14 HNE12.out);have HB14:=Lib.hid (HB13.out.grown hgr14 HB13.out.size (fun g hg=>(HO13.out.lt g hg).1));clear hown14 hown14' hgr14 hat14 hr14))
     have HB9W:=Lib.hid (HB.out.trans (HB14.out.mono HB.out.size))
     obtain ⟨b14,o14,rfl,hb14⟩:=HR14.out.form (by rw [Seg.strs_len,kys_len,List.length_append,←HSL.out,←HTL.out];omega)
     have y0:=Rd_str HR14.out (k:=k) (by rw [kys_len,List.length_append,←HSL.out,←HTL.out];exact hlt)
     rw [HKK.out] at y0
     have z0:=XK14.out.cell 0;have z1:=XK14.out.cell 1;have z2:=XK14.out.cell 2;have z3:=XK14.out.cell 3;have z4:=XK14.out.cell 4
     simp only [List.getElem?_cons_zero,List.getElem?_cons_succ] at z0 z1 z2 z3 z4
     have hq1:(x0.toList == x0.toList)=true:=by simp
     have hq0:(x0.toList != x0.toList)=false:=by simp
     obtain ⟨q,hq⟩:∃q,q=k - sl:=⟨_,rfl⟩
     have hqT:q < T.length:=by rw [←HTL.out];omega
     obtain ⟨b5,o5,rfl,hb5⟩:=HR59.out.form (by rw [wds_len,←HTL.out];omega)
     have d3:=Rd_wd (HR59.out.below HB9W.out) hqT 3 (by omega)
     simp only [rowW,List.getElem?_cons_zero,List.getElem?_cons_succ] at d3
     obtain ⟨hxk,hxa⟩:=HRIGHT.out q hqT (by rw [←HSL.out];omega)
     obtain ⟨ha0,ha1⟩:=HAT.out q hqT
     obtain ⟨_,_,_,e3,_⟩:=HX.out
     rw [←e3] at hxa
     generalize T[q].a=ya at d3 hxa ha0 ha1
     have ht:((k:Int) - (sl:Int)).toNat=q:=by omega
     have hk2:((k:Int) - (sl:Int)) < (tl:Int):=by omega
     have hk3:(0:Int)≤((k:Int) - (sl:Int)):=by omega
     have i1:decide ((k:Int) < (sl:Int))=false:=decide_eq_false (by omega)
     have i2:decide (k < sl)=false:=decide_eq_false hks
     have i3:decide ((sl:Int)≤(k:Int))=true:=decide_eq_true (by omega)
     have i4:decide (sl≤k)=true:=decide_eq_true (by omega)
     have q5:(x3 == ya+(n:Int)+1)=true:=by rw [hxa];simp;omega
     have q6:(x3 != ya+(n:Int)+1)=false:=by rw [hxa];simp;omega
     have hb5w:b5 < w14.heap.size:=by have:=HB9W.out.size;omega
     clear e3 hxa hxk hq hqT HKK HX HLEFT HRIGHT HK4 HK5 XK10 XK11 XK12 XK13 XK14 HE10 HE11 HO12 HO13 HR11 HR13 HBA HBR
     go_quiet (fail)
     go_wp2
     go_roundw
     case rel=>exact ⟨k+1,by omega,by go_num,Lib.hid (below_drewN HB9W.out _)⟩
     case measure=>simp [intOf];omega
   ·go_wp2_with fail
    go_ret
    exact ⟨rfl,HBW.out⟩
set_option maxRecDepth 100000 in
theorem contract (H:Type) (enc:TypeId × Value→H) (W:World) (base:Nat) (args:Array Value) (ds gs:List (DataW H)) (before:List MemPlace)
  (hval:∀(j:Nat) t v,Tryd.f7.params[j]? = some t→args[j]? = some v→Value.okWide Tryd.prog W .any base t v)
  (hW:DataW.Whole enc Tryd.prog Tryd.f7.params.toList Rows.wordsBesideSpec.vars false W args.toList ds gs before) (hLL:laidMetH Tryd.prog Rows.wordsBesideUptoRow.laid W) (hk:Rows.uptoSmall H (ds++gs)=true) :
  Calls Tryd.prog 7 args W fun e W'=>∃v,e=.returned v∧Rows.wordsBesideSpec.post enc Tryd.prog Tryd.f7 false true false false W args v W':=by
 have hL:Laid W:=laid_of hLL
 have hW':=hW
 obtain ⟨p,q,hA0,hV,rfl,hfz,hnd⟩:=hW
 have hA:DataW.TrodAll enc Tryd.prog W 0 (fun _=>true) true Tryd.f7.params.toList args.toList ds p:=hA0
 rw [Tryd.params7] at hA hval
 obtain ⟨v0,vs0,d0,ds0,p0,q0,hargs,rfl,rfl,h0,r0⟩:=trodAll_cons hA
 obtain ⟨v1,vs1,d1,ds1,p1,q1,rfl,rfl,rfl,h1,r1⟩:=trodAll_cons r0
 obtain ⟨rfl,rfl,rfl⟩:=trodAll_nil r1
 obtain rfl:args=#[v0,v1]:=by cases args;simp_all
 obtain ⟨rfl,rfl⟩:=trodVars_none hV
 obtain ⟨a0,len0,cap0,rfl⟩:=okWide_slice Tryd.underlying22 (hval 0 22 v0 rfl rfl)
 have k0:=h0
 have lt0:∀x∈p0,x.block < W.heap.size:=by obtain ⟨m,hm⟩:=k0;exact DataW.trod_lt m _ _ _ hm
 obtain ⟨l0,hl0,hc0,hm0,hr0,hb0⟩:=open_bytes h0
 obtain ⟨a1,len1,cap1,rfl⟩:=okWide_slice Tryd.underlying22 (hval 1 22 v1 rfl rfl)
 have k1:=h1
 have lt1:∀x∈p1,x.block < W.heap.size:=by obtain ⟨m,hm⟩:=k1;exact DataW.trod_lt m _ _ _ hm
 obtain ⟨l1,hl1,hc1,hm1,hr1,hb1⟩:=open_bytes h1
 have hbd:=bulk_bound hk
 simp only [List.append_nil,Rows.uptoBulkAll] at hbd
 clear hA0
 refine (walk a0 l0 len0 cap0 a1 l1 len1 cap1 W hL hr0 hl0 hc0 hm0 hr1 hl1 hc1 hm1 (by omega) (by omega)).mono fun e W' ⟨he,bel⟩=>?_
 subst he
 exact ⟨_,rfl,_,_,_,[],_,[],hW',trodAll_mk1 (shut_bool Tryd.underlying4 _),(trodAll_cons_mk (Below.trod laidOut (by kernel_rfl) (of_decide_eq_true (by kernel_rfl)) k0 bel lt0) (trodAll_cons_mk (Below.trod laidOut (by kernel_rfl) (of_decide_eq_true (by kernel_rfl)) k1 bel lt1) trodAll_mk0)),rfl,bel.frame _,fun h=>by cases h⟩
set_option maxRecDepth 100000 in
theorem laid_met (os:Os):laidMet Tryd.prog Rows.wordsBesideUptoRow.laid ((laidWorld os).forCall (fun _ _=>0) ⟨#[],#[.slice none 0 0,.slice none 0 0],[]⟩).memory :=
 laidMet_of_run' 8 (by kernel_rfl) (by kernel_rfl)
set_option maxRecDepth 100000 in
theorem reads (os:Os) {H:Type} (enc:TypeId × Value→H):∃places,DataW.whole enc Tryd.prog ((laidWorld os).forCall (fun _ _=>0) ⟨#[],#[.slice none 0 0,.slice none 0 0],[]⟩).memory Tryd.f7.params.toList Rows.wordsBesideSpec.vars false (#[.slice none 0 0,.slice none 0 0]:Array Value).toList 8=some ([.nil,.nil],[],places) :=
 ⟨[],by kernel_rfl⟩
set_option maxRecDepth 100000 in
theorem lifted (os:Os) (started:os.Started) (H:Type) (enc:TypeId × Value→H) (F:Stop.Interp) :
  ReturnsInHanded {} Tryd.checked os 7 .any ((Rows.OpenSpec.upto Rows.wordsBesideSpec).preRow enc Tryd.prog Tryd.f7 Rows.wordsBesideUptoRow.domain false Rows.wordsBesideUptoRow.laid) (((Rows.OpenSpec.upto Rows.wordsBesideSpec).at F).post enc Tryd.prog Tryd.f7 false true false false):=by
 obtain ⟨places,hx⟩:=reads os enc
 refine returnsInHanded_of_row (C:=Tryd.checked) (s:=Rows.OpenSpec.upto Rows.wordsBesideSpec) own started (by kernel_rfl) Tryd.func7
  (witness_row_at (enc:=enc) (C:=Tryd.checked) false (laidWorld os) #[.slice none 0 0,.slice none 0 0] rfl (by kernel_rfl) (by kernel_rfl) (by kernel_rfl)
   (OpenSpec.preRow_of_cond 8 hx (by kernel_rfl) (fun k hk=>by cases hk;kernel_rfl) (by kernel_rfl) (laid_met os))) ?_
 intro W base args ds gs before hval hW _ hcond _ hL _ _
 exact contract H enc W base args ds gs before hval hW hL (hcond _ rfl)
set_option maxRecDepth 100000 in
theorem said:Rows.WordsBesideUptoSaid :=
 OpenClaim.holds_of_cond 7 Tryd.f7 rfl rfl rfl rfl rfl rfl rfl ⟨rfl,rfl,rfl,rfl,rfl⟩ rfl rfl rfl rfl rfl (by kernel_rfl) Tryd.func7 (by kernel_rfl)
  (of_decide_eq_true (by kernel_rfl)) (by unfold Func.isWrapper;first | (rw [if_pos (by decide +kernel)];kernel_rfl) | (rw [if_neg (by decide +kernel)];exact ⟨rfl,rfl⟩))
  (fun os started H enc _ F=>by rw [OpenClaim.pre_eq_preRow];exact lifted os started H enc F)
set_option maxRecDepth 100000 in
theorem plain (f:FuncId) (fn:Func) (hf:Tryd.pinned.checked.prog.funcNamed Rows.wordsBesideUptoRow.func=some f) (hfn:Tryd.pinned.checked.prog.funcs[f]? = some fn) :
  false=Tryd.pinned.checked.prog.looks []∧∀(j:Nat) t,fn.params[j]? = some t→Tryd.pinned.checked.prog.wantsStandIn t=false:=by
 obtain rfl:f=7:=Option.some.inj ((show Tryd.prog.funcNamed Rows.wordsBesideUptoRow.func=some 7 by kernel_rfl).symm.trans hf) |>.symm
 obtain rfl:fn=Tryd.f7:=(Option.some.inj (Tryd.func7.symm.trans hfn)).symm
 refine ⟨by kernel_rfl,fun j t ht=>?_⟩
 rw [Tryd.params7] at ht
 have hm:=Array.mem_of_getElem? ht
 simp only [List.mem_toArray,List.mem_cons,List.not_mem_nil,or_false] at hm
 rcases hm with rfl | rfl
 all_goals first | exact (show Tryd.prog.wantsStandIn 22=false by kernel_rfl)
set_option maxRecDepth 100000 in
theorem proved:Rows.WordsBesideUptoCardSaid :=
 Claim7.holds_tied_plain_at .later [] _ _ _ _ said (fun _ h=>by cases h) (by kernel_rfl) (fun _ h=>by cases h) wordsBesideUpto_row_tie rfl ⟨rfl,rfl⟩ (by kernel_rfl) rfl plain (by kernel_rfl)
end Go.Proofs.YtdngaddggcmjgaaDoor.LawWordsBeside
