/-
  Away from the text's beginning a run hangs on what stands from its place on alone. Conditions: arguments of bulk at most 1048576.
-/
import Derived.Test.YtegdbmbenjnacaaGreatQ31
import Derived.Test.YtegdbmbenjnacaaGreatQ34
namespace Go.Proofs.YtegdbmbenjnacaaGreat.LawPikeShifts
open Go.ChangeShapes Go.WideShapes Go.ChangeAt Go.RowKit
open Mem hiding Rd Blk
open Sset (St Tx ArgT txs Short)
open Syn (Nd NV nvs ArgN)
open Prg (Ins mayP PR)
open Pike
set_option maxRecDepth 100000
set_option maxHeartbeats 1000000 in
theorem walk (a0 a1:Option Addr) (V0:List NV) (pp:List Nd) (T:List Tx) (ln lt cp ct:Nat) (x y:Int) (W:World) (HN:ArgN W a0 ln V0 pp) (HT:ArgT W a1 lt T) (bn:lt≤1048576) (_:-9223372036854775808≤x∧x≤9223372036854775807) (_:-9223372036854775808≤y∧y≤9223372036854775807) (hc:lt≤ct) (hcm:ct≤9223372036854775807) :
  Calls Tryz.prog 7 #[.slice a0 ln cp,.slice a1 lt ct,.agg #[.int .i64 x,.int .i64 y]] W (Ret W (.bool true)):=by
 obtain ⟨u,hu⟩:∃u,u=W.alloc (.cells #[.int .i64 x,.int .i64 y] 55):=⟨_,rfl⟩
 have hbu:Below W.heap.size W u:=by rw [hu];exact (Below.refl _ _).alloc (Nat.le_refl _) _
 have blk:Mem.Blk u W.heap.size 55 [.int .i64 x,.int .i64 y]:=by rw [hu];exact Mem.Blk.new W _ _
 have HF:=Lib.hid (fixed_any u)
 have HU:=Lib.hid hu;have HBU:=Lib.hid hbu;have HBK:=Lib.hid blk
 have HP:=Lib.hid HN;have HX:=Lib.hid HT
 clear hu hbu blk HN HT
 go_enter Tryz.func7,Tryz.ntmps7
 go_wp2_with fail
 rw [←HU.out]
 refine HF.out.mono ?_
 rintro e w1 ⟨rfl,hb⟩
 have HB1:=Lib.hid (HBU.out.trans (hb.mono HBU.out.size))
 have HK1:=Lib.hid (HBK.out.below hb HBK.out.lt)
 have q0:w1.cell? ⟨W.heap.size,0,none⟩=some (.int .i64 x):=HK1.out.cell 0
 have q1:w1.cell? ⟨W.heap.size,1,none⟩=some (.int .i64 y):=HK1.out.cell 1
 have f0:=HK1.out.frozen 0;have f1:=HK1.out.frozen 1
 have HP1:=Lib.hid (HP.out.next HB1.out);have HX1:=Lib.hid (HX.out.next HB1.out)
 clear hb HF HU HBU HBK HP HX
 go_wp2_with fail
 go_quiet (fail)
 generalize (y.tmod 2 != 0)=bb
 have HB2:=Lib.hid (below_drewN HB1.out nq)
 have HP2:=Lib.hid (HP1.out.next (below_drewN (Below.refl _ _) nq));have HX2:=Lib.hid (HX1.out.next (below_drewN (Below.refl _ _) nq))
 have q2:(w1.drewN nq).cell? ⟨W.heap.size,0,none⟩=some (.int .i64 x):=q0
 generalize w1.drewN nq=w2 at *
 clear HP1 HX1 HB1 HK1 q0 q1 f0 f1
 rcases Nat.eq_zero_or_pos lt with h0 | h0
 ·subst h0
  have g1:¬(0:Int) < 0:=by omega
  go_wp2_with fail
  refine (longest_any a0 _ ln cp _ ct false bb _ w2 HP2.out HX2.out).mono ?_
  rintro e w3 ⟨rfl,hb⟩
  have HB3:=Lib.hid (HB2.out.trans (hb.mono HB2.out.size))
  have HP3:=Lib.hid (HP2.out.next hb);have HX3:=Lib.hid (HX2.out.next hb)
  obtain ⟨q,hq⟩:∃q,q=longF pp (T.drop 0) false bb 0:=⟨_,rfl⟩
  have HL:=Lib.hid (show longF pp T false bb 0=(if q.2.1=true then q.1+(0:Nat) else q.1,q.2.1,q.2.2.1,q.2.2.2) by rw [hq];exact long_shift (a:=0) (show 0≤T.length by rw [HX2.out.len];omega))
  have hq1:=long_bound pp (T.drop 0) false bb 0
  rw [List.length_drop,HX2.out.len,←hq] at hq1
  have HQ:=Lib.hid hq
  rw [HL.out]
  clear hb HP2 HX2 HB2 hq
  obtain ⟨m,is_,op,er⟩:=q
  dsimp only at hq1
  have hq2:0≤m:=hq1.1
  have hq3:m≤0:=by omega
  have o1:(op != op)=false:=by simp
  have o2:(er != er)=false:=by simp
  clear hq1
  cases is_
  all_goals
   simp only [if_true,Bool.false_eq_true,if_false,four] at HL ⊢
   go_wp2_with fail
   refine (longest_any a0 a1 ln cp _ ct false bb 0 w3 HP3.out (show ArgT w3 a1 0 (T.drop 0) from HX3.out)).mono ?_
   rintro e w4 ⟨rfl,hb⟩
   rw [←HQ.out]
   have HB4:=Lib.hid (HB3.out.trans (hb.mono HB3.out.size))
   have HP4:=Lib.hid (HP3.out.next hb);have HX4:=Lib.hid (HX3.out.next hb)
   simp only [four]
   go_wp2_with fail
   refine (longest_any a0 _ ln cp _ ct true bb _ w4 HP4.out HX4.out).mono ?_
   rintro e w5 ⟨rfl,hb⟩
   have HB5:=Lib.hid (HB4.out.trans (hb.mono HB4.out.size))
   clear hb
   generalize longF pp T true bb 0=q5
   obtain ⟨m5,i5,o5,e5⟩:=q5
   simp only [four]
   go_wp2_with fail
   go_ret
   exact ⟨rfl,HB5.out⟩
 ·have g1:(0:Int) < lt:=by omega
  go_wp2_with fail
  obtain ⟨s,hs,hs1⟩:∃s:Nat,wrap64 ((IntKind.u64.wrap x).tmod ((lt:Int)+1))=(s:Int)∧s≤lt:=u64_at x lt bn
  rw [hs]
  refine (longest_any a0 _ ln cp _ ct false bb _ w2 HP2.out HX2.out).mono ?_
  rintro e w3 ⟨rfl,hb⟩
  have HB3:=Lib.hid (HB2.out.trans (hb.mono HB2.out.size))
  have HP3:=Lib.hid (HP2.out.next hb);have HX3:=Lib.hid (HX2.out.next hb)
  obtain ⟨A1,k1,hsl,ha⟩:=texts_from HX3.out hs1 hc hcm
  have HA:=Lib.hid ha
  clear ha
  obtain ⟨q,hq⟩:∃q,q=longF pp (T.drop s) false bb 0:=⟨_,rfl⟩
  have HL:=Lib.hid (show longF pp T false bb (s:Int)=(if q.2.1=true then q.1+(s:Nat) else q.1,q.2.1,q.2.2.1,q.2.2.2) by rw [hq];exact long_shift (a:=s) (show s≤T.length by rw [HX2.out.len];omega))
  have hq1:=long_bound pp (T.drop s) false bb 0
  rw [List.length_drop,HX2.out.len,←hq] at hq1
  have HQ:=Lib.hid hq
  rw [HL.out]
  clear hb HP2 HX2 HB2 hq
  obtain ⟨m,is_,op,er⟩:=q
  dsimp only at hq1
  have hq2:0≤m:=hq1.1
  have hq3:m≤(lt:Int) - s:=by omega
  have o1:(op != op)=false:=by simp
  have o2:(er != er)=false:=by simp
  clear hq1
  cases is_
  all_goals
   simp only [if_true,Bool.false_eq_true,if_false,four] at HL ⊢
   go_wp2_with fail
   refine (longest_any a0 A1 ln cp _ k1 false bb 0 w3 HP3.out HA.out).mono ?_
   rintro e w4 ⟨rfl,hb⟩
   rw [←HQ.out]
   have HB4:=Lib.hid (HB3.out.trans (hb.mono HB3.out.size))
   have HP4:=Lib.hid (HP3.out.next hb);have HX4:=Lib.hid (HX3.out.next hb)
   simp only [four]
   go_wp2_with fail
   refine (longest_any a0 _ ln cp _ ct true bb _ w4 HP4.out HX4.out).mono ?_
   rintro e w5 ⟨rfl,hb⟩
   have HB5:=Lib.hid (HB4.out.trans (hb.mono HB4.out.size))
   clear hb
   rcases Nat.eq_zero_or_pos s with hs0 | hs0
   ·subst hs0
    generalize longF pp T true bb _=q5
    obtain ⟨m5,i5,o5,e5⟩:=q5
    simp only [four]
    go_wp2_with fail
    go_ret
    exact ⟨rfl,HB5.out⟩
   ·have hsn:¬(s:Int)=0:=by omega
    have o3:(op == op)=true:=by simp
    have o4:(er == er)=true:=by simp
    rw [long_begin hs0,HL.out]
    simp only [four]
    go_wp2_with fail
    go_ret
    exact ⟨rfl,HB5.out⟩
theorem contract (H:Type) (enc:TypeId × Value→H) (W:World) (base:Nat) (args:Array Value) (ds gs:List (DataW H)) (before:List MemPlace)
  (hval:∀(j:Nat) t v,Tryz.f7.params[j]? = some t→args[j]? = some v→Value.okWide Tryz.prog W .any base t v)
  (hW:DataW.Whole enc Tryz.prog Tryz.f7.params.toList Rows.pikeShiftsSpec.vars false W args.toList ds gs before) (hk:Rows.uptoSmall H (ds++gs)=true) :
  Calls Tryz.prog 7 args W fun e W'=>∃v,e=.returned v∧Rows.pikeShiftsSpec.post enc Tryz.prog Tryz.f7 false true false false W args v W':=by
 have hW':=hW
 obtain ⟨p,q,hA0,hV,rfl,hfz,hnd⟩:=hW
 have hA:DataW.TrodAll enc Tryz.prog W 0 (fun _=>true) true Tryz.f7.params.toList args.toList ds p:=hA0
 rw [Tryz.params7] at hA hval
 obtain ⟨v0,vs0,d0,ds0,p0,q0,hargs,rfl,rfl,h0,r0⟩:=trodAll_cons hA
 obtain ⟨v1,vs1,d1,ds1,p1,q1,rfl,rfl,rfl,h1,r1⟩:=trodAll_cons r0
 obtain ⟨v2,vs2,d2,ds2,p2,q2,rfl,rfl,rfl,h2,r2⟩:=trodAll_cons r1
 obtain ⟨rfl,rfl,rfl⟩:=trodAll_nil r2
 obtain rfl:args=#[v0,v1,v2]:=by cases args;simp_all
 obtain ⟨rfl,rfl⟩:=trodVars_none hV
 have hbd:=bulk_bound hk
 simp only [List.append_nil,Rows.uptoBulkAll] at hbd
 have k0:=h0
 have lt0:∀x∈p0,x.block < W.heap.size:=by obtain ⟨m,hm⟩:=k0;exact DataW.trod_lt m _ _ _ hm
 obtain ⟨a0,len0,cap0,rfl⟩:=okWide_slice Tryz.underlying22 (hval 0 22 v0 rfl rfl)
 obtain ⟨V0,l0,HN0⟩:=open_code h0 (by omega)
 have k1:=h1
 have lt1:∀x∈p1,x.block < W.heap.size:=by obtain ⟨m,hm⟩:=k1;exact DataW.trod_lt m _ _ _ hm
 obtain ⟨a1,len1,cap1,rfl⟩:=okWide_slice Tryz.underlying23 (hval 1 23 v1 rfl rfl)
 obtain ⟨l1,hl1,hc1,hm1,hr1,ht1,hn1⟩:=open_texts h1
 have HT1:ArgT W a1 len1 l1:=argT_texts hl1 hr1 ht1 hn1 (by omega)
 have bn1:len1≤1048576:=by omega
 have k2:=h2
 have lt2:∀x∈p2,x.block < W.heap.size:=by obtain ⟨m,hm⟩:=k2;exact DataW.trod_lt m _ _ _ hm
 obtain ⟨x2,y2,rfl,rfl,rfl,wx20,wy20⟩:=open_two (hval 2 55 v2 rfl rfl) h2
 have wx2:=i64_bounds wx20
 have wy2:=i64_bounds wy20
 clear hA0
 refine (walk a0 a1 V0 l0 l1 len0 len1 cap0 cap1 x2 y2 W HN0 HT1 bn1 wx2 wy2 hc1 hm1).mono fun e W' ⟨he,bel⟩=>?_
 subst he
 exact ⟨_,rfl,_,_,_,[],_,[],hW',trodAll_mk1 (shut_bool Tryz.underlying4 _),(trodAll_cons_mk (Below.trod laidOut (by kernel_rfl) (of_decide_eq_true (by kernel_rfl)) k0 bel lt0) (trodAll_cons_mk (Below.trod laidOut (by kernel_rfl) (of_decide_eq_true (by kernel_rfl)) k1 bel lt1) (trodAll_cons_mk (shut_two wx20 wy20) trodAll_mk0))),rfl,bel.frame _,fun h=>by cases h⟩
set_option maxRecDepth 100000 in
theorem lifted (os:Os) (started:os.Started) (H:Type) (enc:TypeId × Value→H) (F:Stop.Interp) :
  ReturnsInHanded {} Tryz.checked os 7 .any ((Rows.OpenSpec.upto Rows.pikeShiftsSpec).pre6 enc Tryz.prog Tryz.f7 Rows.pikeShiftsUptoRow.domain false) (((Rows.OpenSpec.upto Rows.pikeShiftsSpec).at F).post enc Tryz.prog Tryz.f7 false true false false):=by
 refine returnsInHanded_of_cond (C:=Tryz.checked) (s:=Rows.OpenSpec.upto Rows.pikeShiftsSpec) (k:=Rows.uptoSmall) rfl own started (by kernel_rfl) Tryz.func7
  (OpenSpec.witness (enc:=enc) (C:=Tryz.checked) (s:=Rows.OpenSpec.upto Rows.pikeShiftsSpec) (k:=Rows.uptoSmall) rfl false ⟨#[],#[.slice none 0 0,.slice none 0 0,.agg #[.int .i64 0,.int .i64 0]],[]⟩ 8 (by kernel_rfl) (by kernel_rfl) (by kernel_rfl)
   (x:=([.nil,.nil,.agg [.lit (.int .i64 0),.lit (.int .i64 0)]],[],[])) (by kernel_rfl) rfl (by kernel_rfl)) ?_
 intro W base args ds gs before hval hW _ hk _
 exact contract H enc W base args ds gs before hval hW hk
theorem proved:Rows.PikeShiftsUptoSaid :=
 OpenClaim.holds_of_cond 7 Tryz.f7 rfl rfl rfl rfl rfl rfl rfl ⟨rfl,rfl,rfl,rfl,rfl⟩ rfl rfl rfl rfl rfl (by kernel_rfl) Tryz.func7 (by kernel_rfl)
  (of_decide_eq_true (by kernel_rfl)) (by unfold Func.isWrapper;first | (rw [if_pos (by decide +kernel)];kernel_rfl) | (rw [if_neg (by decide +kernel)];exact ⟨rfl,rfl⟩))
  (fun os started H enc _ F=>lifted os started H enc F)
end Go.Proofs.YtegdbmbenjnacaaGreat.LawPikeShifts
