/-
  All spans of any program in any texts, and whether all is a match, are what the document says. Conditions: arguments of bulk at most 1048576.
-/
import Derived.Test.YtegdbmbenjnacaaGreatR30
import Derived.Test.YtegdbmbenjnacaaGreatR34
import Derived.Test.YtegdbmbenjnacaaGreatR35
namespace Go.Proofs.YtegdbmbenjnacaaGreat.LawPikeAlls
open Go.ChangeShapes Go.WideShapes Go.ChangeAt Go.RowKit
open Mem hiding Rd Blk
open Sset (St Tx ArgT txs Short)
open Syn (Nd NV nvs ArgN)
open Prg (Ins mayP PR)
open Pike
set_option maxRecDepth 100000
theorem long_yes {p:List Nd} {T:List Tx} (h:mayP p=true):longF p T true true 0=((((lastM p T true true 0 (T.length+1)).getD 0:Nat):Int),(lastM p T true true 0 (T.length+1)).isSome,openF p T true true 0,0):=if_pos ⟨h,Int.le_refl 0,Int.natCast_nonneg _⟩
theorem long_no {p:List Nd} {T:List Tx} (h:mayP p=false):longF p T true true 0=(0,false,false,1):=if_neg fun e=>by rw [h] at e;cases e.1
set_option maxHeartbeats 2000000 in
theorem walk (a0 a1:Option Addr) (V0:List NV) (pp:List Nd) (T:List Tx) (ln lt cp ct:Nat) (W:World) (HN:ArgN W a0 ln V0 pp) (HT:ArgT W a1 lt T) (bn:lt≤1048576) :
  Calls Tryz.prog 4 #[.slice a0 ln cp,.slice a1 lt ct] W (Ret W (.bool true)):=by
 have HF:=Lib.hid (fixed_any W)
 have HP:=Lib.hid HN;have HX:=Lib.hid HT
 clear HN HT
 go_enter Tryz.func4,Tryz.ntmps4
 go_wp2_with fail
 refine HF.out.mono ?_
 rintro e w1 ⟨rfl,hb⟩
 have HB1:=Lib.hid hb
 have HP1:=Lib.hid (HP.out.next hb);have HX1:=Lib.hid (HX.out.next hb)
 clear hb HF HP HX
 go_wp2_with fail
 by_cases hm:mayP pp=true
 ·have HM:=Lib.hid hm
  refine (all_any a0 a1 ln cp lt ct w1 HP1.out HX1.out).mono ?_
  intro e w2 h2
  unfold AllT at h2
  rw [if_pos HM.out] at h2
  obtain ⟨v2,rfl,ho2,hb⟩:=h2
  have HB2:=Lib.hid (HB1.out.trans (hb.mono HB1.out.size))
  have HP2:=Lib.hid (HP1.out.next hb);have HX2:=Lib.hid (HX1.out.next hb)
  obtain ⟨A2,c2,rfl,hc2,hcm2,hr2⟩:=own_form ho2
  have HO2:=Lib.hid hr2
  have hlen:(allF pp T 0).length≤1048577:=by
   have h1:(allF pp T 0).length≤T.length+1 - 0:=allA_len _ _
   have h2:=HX2.out.len
   omega
  clear hb HP1 HX1 HB1 hm ho2 hr2
  go_wp2_with fail
  refine (whole_any a0 a1 ln cp lt ct w2 HP2.out HX2.out).mono ?_
  rintro e w3 ⟨rfl,hb⟩
  have HB3:=Lib.hid (HB2.out.trans (hb.mono HB2.out.size))
  have HP3:=Lib.hid (HP2.out.next hb);have HX3:=Lib.hid (HX2.out.next hb)
  have HO3:=Lib.hid ((HO2.out.below hb).more hb.size)
  have htl:=HX3.out.len
  clear hb HP2 HX2 HB2 HO2
  have HWF:=Lib.hid (show wholeF pp T=((lastM pp T true true 0 (lt+1)).isSome && decide ((((lastM pp T true true 0 (lt+1)).getD 0:Nat):Int)=(lt:Int)),0) by unfold wholeF;rw [long_yes HM.out,htl])
  rw [HWF.out]
  have HL0:=Lib.hid (show docF pp T true true 0=.tuple #[.int .i64 (((lastM pp T true true 0 (lt+1)).getD 0:Nat):Int),.bool (lastM pp T true true 0 (lt+1)).isSome,.bool (openF pp T true true 0),.int .i64 (stepsF pp T true true 0 (lt+1):Int)] by unfold docF;rw [htl])
  generalize (((lastM pp T true true 0 (lt+1)).getD 0:Nat):Int)=v1 at HL0 ⊢
  generalize (lastM pp T true true 0 (lt+1)).isSome=v2 at HL0 ⊢
  generalize openF pp T true true 0=v3 at HL0
  generalize (stepsF pp T true true 0 (lt+1):Int)=v4 at HL0
  clear HWF
  dsimp only
  go_wp2_with fail
  refine (Prg.rpmay_any a0 V0 pp ln cp w3 HP3.out).mono ?_
  rintro e w4 ⟨rfl,hb⟩
  rw [HM.out]
  have HB4:=Lib.hid (HB3.out.trans (hb.mono HB3.out.size))
  have HP4:=Lib.hid (HP3.out.next hb);have HX4:=Lib.hid (HX3.out.next hb)
  have HO4:=Lib.hid ((HO3.out.below hb).more hb.size)
  clear hb HP3 HX3 HB3 HO3
  go_wp2_with fail
  refine (show Calls _ _ #[.slice a0 ln cp,.slice a1 lt ct,.int .i64 0,.bool true,.bool true] w4 _ from rlongest_any (s:=0) HP4.out HM.out HX4.out (Nat.zero_le _)).mono ?_
  rintro e w5 ⟨rfl,hb⟩
  rw [HL0.out]
  have HB5:=Lib.hid (HB4.out.trans (hb.mono HB4.out.size))
  have HP5:=Lib.hid (HP4.out.next hb);have HX5:=Lib.hid (HX4.out.next hb)
  have HO5:=Lib.hid ((HO4.out.below hb).more hb.size)
  clear hb HP4 HX4 HB4 HO4 HL0
  go_wp2_with fail
  refine (rall_any a0 a1 ln cp lt ct w5 HP5.out HX5.out HM.out).mono ?_
  rintro e w6 ⟨v6,rfl,ho6,hb⟩
  have HB6:=Lib.hid (HB5.out.trans (hb.mono HB5.out.size))
  have HO6:=Lib.hid ((HO5.out.below hb).more hb.size)
  obtain ⟨A6,c6,rfl,_,_,hr6⟩:=own_form ho6
  have HR6:=Lib.hid hr6
  clear hb HP5 HX5 HB5 HO5 ho6 hr6
  go_wp2_with fail
  refine (rsame_spans HO6.out HR6.out rfl (by omega)).mono ?_
  rintro e w7 ⟨rfl,hb⟩
  have HB7:=Lib.hid (HB6.out.trans (hb.mono HB6.out.size))
  clear hb HO6 HR6 HB6
  obtain ⟨z,hz⟩:∃z,z=(v1 == (lt:Int)):=⟨_,rfl⟩
  have hz1:decide (v1=(lt:Int))=z:=by rw [hz,Bool.eq_iff_iff,decide_eq_true_eq,beq_iff_eq]
  rw [hz1]
  have hz2:=hz.symm
  clear hz hz1
  cases v2 <;> cases z
  all_goals go_wp2_with fail
  all_goals go_ret
  all_goals exact ⟨rfl,HB7.out⟩
 ·have hm2:mayP pp=false:=by cases h:mayP pp with | false=>rfl | true=>exact absurd h hm
  have HM:=Lib.hid hm2
  refine (all_any a0 a1 ln cp lt ct w1 HP1.out HX1.out).mono ?_
  intro e w2 h2
  unfold AllT at h2
  rw [if_neg (by rw [HM.out];decide)] at h2
  obtain ⟨rfl,hb⟩:=h2
  have HB2:=Lib.hid (HB1.out.trans (hb.mono HB1.out.size))
  have HP2:=Lib.hid (HP1.out.next hb);have HX2:=Lib.hid (HX1.out.next hb)
  clear hb HP1 HX1 HB1 hm hm2
  go_wp2_with fail
  refine (whole_any a0 a1 ln cp lt ct w2 HP2.out HX2.out).mono ?_
  rintro e w3 ⟨rfl,hb⟩
  have HB3:=Lib.hid (HB2.out.trans (hb.mono HB2.out.size))
  have HP3:=Lib.hid (HP2.out.next hb)
  clear hb HP2 HX2 HB2
  have HWF:=Lib.hid (show wholeF pp T=(false,1) by unfold wholeF;rw [long_no HM.out];rfl)
  rw [HWF.out]
  dsimp only
  go_wp2_with fail
  refine (Prg.rpmay_any a0 V0 pp ln cp w3 HP3.out).mono ?_
  rintro e w4 ⟨rfl,hb⟩
  rw [HM.out]
  have HB4:=Lib.hid (HB3.out.trans (hb.mono HB3.out.size))
  clear hb HP3 HB3
  go_wp2_with fail
  go_ret
  exact ⟨rfl,HB4.out⟩
theorem contract (H:Type) (enc:TypeId × Value→H) (W:World) (base:Nat) (args:Array Value) (ds gs:List (DataW H)) (before:List MemPlace)
  (hval:∀(j:Nat) t v,Tryz.f4.params[j]? = some t→args[j]? = some v→Value.okWide Tryz.prog W .any base t v)
  (hW:DataW.Whole enc Tryz.prog Tryz.f4.params.toList Rows.pikeAllsSpec.vars false W args.toList ds gs before) (hk:Rows.uptoSmall H (ds++gs)=true) :
  Calls Tryz.prog 4 args W fun e W'=>∃v,e=.returned v∧Rows.pikeAllsSpec.post enc Tryz.prog Tryz.f4 false true false false W args v W':=by
 have hW':=hW
 obtain ⟨p,q,hA0,hV,rfl,hfz,hnd⟩:=hW
 have hA:DataW.TrodAll enc Tryz.prog W 0 (fun _=>true) true Tryz.f4.params.toList args.toList ds p:=hA0
 rw [Tryz.params4] at hA hval
 obtain ⟨v0,vs0,d0,ds0,p0,q0,hargs,rfl,rfl,h0,r0⟩:=trodAll_cons hA
 obtain ⟨v1,vs1,d1,ds1,p1,q1,rfl,rfl,rfl,h1,r1⟩:=trodAll_cons r0
 obtain ⟨rfl,rfl,rfl⟩:=trodAll_nil r1
 obtain rfl:args=#[v0,v1]:=by cases args;simp_all
 obtain ⟨rfl,rfl⟩:=trodVars_none hV
 have hbd:=bulk_bound hk
 simp only [List.append_nil,Rows.uptoBulkAll] at hbd
 have k0:=h0
 have lt0:∀x∈p0,x.block < W.heap.size:=by obtain ⟨m,hm⟩:=k0;exact DataW.trod_lt m _ _ _ hm
 obtain ⟨a0,len0,cap0,rfl⟩:=okWide_slice Tryz.underlying22 (hval 0 22 v0 rfl rfl)
 obtain ⟨V0,l0,HN0⟩:=open_code h0 (by omega)
 have k1:=h1
 have lt1:∀x∈p1,x.block < W.heap.size:=by obtain ⟨m,hm⟩:=k1;exact DataW.trod_lt m _ _ _ hm
 obtain ⟨a1,len1,cap1,rfl⟩:=okWide_slice Tryz.underlying23 (hval 1 23 v1 rfl rfl)
 obtain ⟨l1,hl1,hc1,hm1,hr1,ht1,hn1⟩:=open_texts h1
 have HT1:ArgT W a1 len1 l1:=argT_texts hl1 hr1 ht1 hn1 (by omega)
 have bn1:len1≤1048576:=by omega
 clear hA0
 refine (walk a0 a1 V0 l0 l1 len0 len1 cap0 cap1 W HN0 HT1 bn1).mono fun e W' ⟨he,bel⟩=>?_
 subst he
 exact ⟨_,rfl,_,_,_,[],_,[],hW',trodAll_mk1 (shut_bool Tryz.underlying4 _),(trodAll_cons_mk (Below.trod laidOut (by kernel_rfl) (of_decide_eq_true (by kernel_rfl)) k0 bel lt0) (trodAll_cons_mk (Below.trod laidOut (by kernel_rfl) (of_decide_eq_true (by kernel_rfl)) k1 bel lt1) trodAll_mk0)),rfl,bel.frame _,fun h=>by cases h⟩
set_option maxRecDepth 100000 in
theorem lifted (os:Os) (started:os.Started) (H:Type) (enc:TypeId × Value→H) (F:Stop.Interp) :
  ReturnsInHanded {} Tryz.checked os 4 .any ((Rows.OpenSpec.upto Rows.pikeAllsSpec).pre6 enc Tryz.prog Tryz.f4 Rows.pikeAllsUptoRow.domain false) (((Rows.OpenSpec.upto Rows.pikeAllsSpec).at F).post enc Tryz.prog Tryz.f4 false true false false):=by
 refine returnsInHanded_of_cond (C:=Tryz.checked) (s:=Rows.OpenSpec.upto Rows.pikeAllsSpec) (k:=Rows.uptoSmall) rfl own started (by kernel_rfl) Tryz.func4
  (OpenSpec.witness (enc:=enc) (C:=Tryz.checked) (s:=Rows.OpenSpec.upto Rows.pikeAllsSpec) (k:=Rows.uptoSmall) rfl false ⟨#[],#[.slice none 0 0,.slice none 0 0],[]⟩ 8 (by kernel_rfl) (by kernel_rfl) (by kernel_rfl)
   (x:=([.nil,.nil],[],[])) (by kernel_rfl) rfl (by kernel_rfl)) ?_
 intro W base args ds gs before hval hW _ hk _
 exact contract H enc W base args ds gs before hval hW hk
theorem proved:Rows.PikeAllsUptoSaid :=
 OpenClaim.holds_of_cond 4 Tryz.f4 rfl rfl rfl rfl rfl rfl rfl ⟨rfl,rfl,rfl,rfl,rfl⟩ rfl rfl rfl rfl rfl (by kernel_rfl) Tryz.func4 (by kernel_rfl)
  (of_decide_eq_true (by kernel_rfl)) (by unfold Func.isWrapper;first | (rw [if_pos (by decide +kernel)];kernel_rfl) | (rw [if_neg (by decide +kernel)];exact ⟨rfl,rfl⟩))
  (fun os started H enc _ F=>lifted os started H enc F)
end Go.Proofs.YtegdbmbenjnacaaGreat.LawPikeAlls
