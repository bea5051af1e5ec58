/-
  The longest match from any place of any window, whether the run is open, and its steps, are what the document says. Conditions: arguments of bulk at most 1048576.
-/
import Derived.Test.YtegdbmbenjnacaaGreatR30
import Derived.Test.YtegdbmbenjnacaaGreatR34
import Derived.Test.YtegdbmbenjnacaaGreatR35
namespace Go.Proofs.YtegdbmbenjnacaaGreat.LawPikeRuns
open Go.ChangeShapes Go.WideShapes Go.ChangeAt Go.RowKit
open Mem hiding Rd Blk
open Sset (St Tx ArgT txs Short)
open Syn (Nd NV nvs ArgN)
open Prg (Ins mayP PR)
open Pike
set_option maxRecDepth 100000
theorem long_yes {p:List Nd} {T:List Tx} {b f:Bool} {s:Nat} (h:mayP p=true∧0≤(s:Int)∧(s:Int)≤T.length):longF p T b f s=((((lastM p T b f s (T.length+1)).getD 0:Nat):Int),(lastM p T b f s (T.length+1)).isSome,openF p T b f s,0):=if_pos h
theorem steps_yes {p:List Nd} {T:List Tx} {b f:Bool} {s:Nat} (h:mayP p=true∧0≤(s:Int)∧(s:Int)≤T.length):stepsV p T b f s=stepsF p T b f s (T.length+1):=if_pos h
theorem long_no {p:List Nd} {T:List Tx} {b f:Bool} {z:Int} (h:¬(mayP p=true∧0≤z∧z≤T.length)):longF p T b f z=(0,false,false,1):=if_neg h
theorem steps_no {p:List Nd} {T:List Tx} {b f:Bool} {z:Int} (h:¬(mayP p=true∧0≤z∧z≤T.length)):stepsV p T b f z=0:=if_neg h
set_option maxHeartbeats 2000000 in
theorem walk (a0 a1:Option Addr) (V0:List NV) (pp:List Nd) (T:List Tx) (ln lt cp ct:Nat) (x y z:Int) (W:World) (HN:ArgN W a0 ln V0 pp) (HT:ArgT W a1 lt T) (bn:lt≤1048576) :
  Calls Tryz.prog 3 #[.slice a0 ln cp,.slice a1 lt ct,.agg #[.int .i64 x,.int .i64 y,.int .i64 z]] W (Ret W (.bool true)):=by
 obtain ⟨u,hu⟩:∃u,u=W.alloc (.cells #[.int .i64 x,.int .i64 y,.int .i64 z] 24):=⟨_,rfl⟩
 have hbu:Below W.heap.size W u:=by rw [hu];exact (Below.refl _ _).alloc (Nat.le_refl _) _
 have blk:Mem.Blk u W.heap.size 24 [.int .i64 x,.int .i64 y,.int .i64 z]:=by rw [hu];exact Mem.Blk.new W _ _
 have HF:=Lib.hid (fixed_any u)
 have HU:=Lib.hid hu;have HBU:=Lib.hid hbu;have HBK:=Lib.hid blk
 have HP:=Lib.hid HN;have HX:=Lib.hid HT
 clear hu hbu blk HN HT
 go_enter Tryz.func3,Tryz.ntmps3
 go_wp2_with fail
 rw [←HU.out]
 refine HF.out.mono ?_
 rintro e w1 ⟨rfl,hb⟩
 have HB1:=Lib.hid (HBU.out.trans (hb.mono HBU.out.size))
 have HK1:=Lib.hid (HBK.out.below hb HBK.out.lt)
 have q0:w1.cell? ⟨W.heap.size,0,none⟩=some (.int .i64 x):=HK1.out.cell 0
 have q1:w1.cell? ⟨W.heap.size,1,none⟩=some (.int .i64 y):=HK1.out.cell 1
 have q2:w1.cell? ⟨W.heap.size,2,none⟩=some (.int .i64 z):=HK1.out.cell 2
 have HP1:=Lib.hid (HP.out.next HB1.out);have HX1:=Lib.hid (HX.out.next HB1.out)
 clear hb HF HU HBU HBK HP HX
 go_wp2_with fail
 go_quiet (fail)
 generalize (y.tmod 2 != 0)=bb
 generalize (z.tmod 2 != 0)=ff
 have HB2:=Lib.hid (below_drewN HB1.out nq)
 have HP2:=Lib.hid (HP1.out.next (below_drewN (Below.refl _ _) nq));have HX2:=Lib.hid (HX1.out.next (below_drewN (Below.refl _ _) nq))
 generalize w1.drewN nq=w2 at *
 clear HP1 HX1 HB1 HK1 q0 q1 q2
 go_wp2_with fail
 refine (longest_any a0 a1 ln cp lt ct bb ff x w2 HP2.out HX2.out).mono ?_
 rintro e w3 ⟨rfl,hb⟩
 have HB3:=Lib.hid (HB2.out.trans (hb.mono HB2.out.size))
 have HP3:=Lib.hid (HP2.out.next hb);have HX3:=Lib.hid (HX2.out.next hb)
 clear hb HP2 HX2 HB2
 simp only [four]
 go_wp2_with fail
 refine (steps_any a0 a1 ln cp lt ct bb ff x w3 HP3.out HX3.out).mono ?_
 rintro e w4 ⟨rfl,hb⟩
 have HB4:=Lib.hid (HB3.out.trans (hb.mono HB3.out.size))
 have HP4:=Lib.hid (HP3.out.next hb);have HX4:=Lib.hid (HX3.out.next hb)
 clear hb HP3 HX3 HB3
 go_wp2_with fail
 refine (Prg.rpmay_any a0 V0 pp ln cp w4 HP4.out).mono ?_
 rintro e w5 ⟨rfl,hb⟩
 have HB5:=Lib.hid (HB4.out.trans (hb.mono HB4.out.size))
 have HP5:=Lib.hid (HP4.out.next hb);have HX5:=Lib.hid (HX4.out.next hb)
 have hpl:=HP5.out.len2;have htl:=HX5.out.len
 clear hb HP4 HX4 HB4
 by_cases hc:mayP pp=true∧0≤x∧x≤(lt:Int)
 ·obtain ⟨hc0,hc1,hc2⟩:=hc
  obtain ⟨s,rfl⟩:∃s:Nat,x=s:=⟨x.toNat,by omega⟩
  have hsl:s≤lt:=by omega
  have HM:=Lib.hid hc0
  have hw:mayP pp=true∧0≤(s:Int)∧(s:Int)≤T.length:=⟨hc0,hc1,by rw [htl];exact hc2⟩
  have HDF:=Lib.hid (show docF pp T bb ff s=_ from rfl)
  have HSL:=stepsF_le (p:=pp) (W:=T) (b:=bb) (f:=ff) (s:=s) (T.length+1 - s)
  rw [show s+(T.length+1 - s)=T.length+1 by omega,htl,hpl] at HSL
  have HLO:=Lib.hid (rlongest_any (c:=cp) (d:=ct) (b:=bb) (f:=ff) HP5.out hc0 HX5.out hsl)
  unfold docF at HLO
  rw [long_yes hw,steps_yes hw,hc0]
  rw [htl] at HLO ⊢
  have hl4:ln≤4096:=by rw [←hpl];exact (Prg.may_last hc0).2.1
  generalize (((lastM pp T bb ff s (lt+1)).getD 0:Nat):Int)=v1 at HLO ⊢
  generalize (lastM pp T bb ff s (lt+1)).isSome=v2 at HLO ⊢
  generalize openF pp T bb ff s=v3 at HLO ⊢
  generalize stepsF pp T bb ff s (lt+1)=v4 at HLO HSL ⊢
  have o1:(v1 == v1)=true:=by simp
  have o2:(v2 == v2)=true:=by simp
  have o3:(v3 == v3)=true:=by simp
  have o4:((v4:Int) == (v4:Int))=true:=by simp
  have s0:¬((s:Int) < 0):=by omega
  have s1:¬((lt:Int) < (s:Int)):=by omega
  obtain ⟨N,hN⟩:∃N,N=lt+1 - s:=⟨_,rfl⟩
  have e1:IntKind.i64.wrap ((lt:Int) - (s:Int))=(lt:Int) - (s:Int):=IntWalk.i64_in _ (by omega)
  have e2:IntKind.i64.wrap ((lt:Int) - (s:Int)+1)=(N:Int):=by rw [IntWalk.i64_in _ (by omega)];omega
  have hmul:ln*N≤4096*1048577:=Nat.mul_le_mul hl4 (by omega)
  have e3:IntKind.i64.wrap ((ln:Int)*(N:Int))=((ln*N:Nat):Int):=by rw [IntWalk.i64_in _ (by rw [←Int.natCast_mul];omega),Int.natCast_mul]
  rw [←hN] at HSL
  have E4:=Lib.hid (show (v4:Int)≤(ln:Int)*(N:Int) by exact_mod_cast HSL)
  clear hN hmul HSL hw hc0 hc1 hc2
  go_wp2_with fail
  refine HLO.out.mono ?_
  rintro e w6 ⟨rfl,hb⟩
  have HB6:=Lib.hid (HB5.out.trans (hb.mono HB5.out.size))
  clear hb HLO HB5 HP5 HX5
  go_wp2_with fail
  go_ret
  exact ⟨ret_bool (decide_eq_true E4.out),HB6.out⟩
 ·have hn:¬(mayP pp=true∧0≤x∧x≤T.length):=by rw [htl];exact hc
  rw [long_no hn,steps_no hn]
  have hc2:mayP pp=true→¬x < 0→(lt:Int) < x:=fun h1 h2=>by
   rcases Int.lt_or_le lt x with h3 | h3
   ·exact h3
   ·exact absurd ⟨h1,by omega,h3⟩ hc
  generalize mayP pp=mp at hc2 ⊢
  clear hn hc HP5 HX5 hpl htl
  cases mp with
  | false =>
   go_wp2_with fail
   go_ret
   exact ⟨rfl,HB5.out⟩
  | true =>
   by_cases hx:x < 0
   ·go_wp2_with fail
    go_ret
    exact ⟨rfl,HB5.out⟩
   ·have hx2:=hc2 rfl hx
    clear hc2
    go_wp2_with fail
    go_ret
    exact ⟨rfl,HB5.out⟩
theorem contract (H:Type) (enc:TypeId × Value→H) (W:World) (base:Nat) (args:Array Value) (ds gs:List (DataW H)) (before:List MemPlace)
  (hval:∀(j:Nat) t v,Tryz.f3.params[j]? = some t→args[j]? = some v→Value.okWide Tryz.prog W .any base t v)
  (hW:DataW.Whole enc Tryz.prog Tryz.f3.params.toList Rows.pikeRunsSpec.vars false W args.toList ds gs before) (hk:Rows.uptoSmall H (ds++gs)=true) :
  Calls Tryz.prog 3 args W fun e W'=>∃v,e=.returned v∧Rows.pikeRunsSpec.post enc Tryz.prog Tryz.f3 false true false false W args v W':=by
 have hW':=hW
 obtain ⟨p,q,hA0,hV,rfl,hfz,hnd⟩:=hW
 have hA:DataW.TrodAll enc Tryz.prog W 0 (fun _=>true) true Tryz.f3.params.toList args.toList ds p:=hA0
 rw [Tryz.params3] at hA hval
 obtain ⟨v0,vs0,d0,ds0,p0,q0,hargs,rfl,rfl,h0,r0⟩:=trodAll_cons hA
 obtain ⟨v1,vs1,d1,ds1,p1,q1,rfl,rfl,rfl,h1,r1⟩:=trodAll_cons r0
 obtain ⟨v2,vs2,d2,ds2,p2,q2,rfl,rfl,rfl,h2,r2⟩:=trodAll_cons r1
 obtain ⟨rfl,rfl,rfl⟩:=trodAll_nil r2
 obtain rfl:args=#[v0,v1,v2]:=by cases args;simp_all
 obtain ⟨rfl,rfl⟩:=trodVars_none hV
 have hbd:=bulk_bound hk
 simp only [List.append_nil,Rows.uptoBulkAll] at hbd
 have k0:=h0
 have lt0:∀x∈p0,x.block < W.heap.size:=by obtain ⟨m,hm⟩:=k0;exact DataW.trod_lt m _ _ _ hm
 obtain ⟨a0,len0,cap0,rfl⟩:=okWide_slice Tryz.underlying22 (hval 0 22 v0 rfl rfl)
 obtain ⟨V0,l0,HN0⟩:=open_code h0 (by omega)
 have k1:=h1
 have lt1:∀x∈p1,x.block < W.heap.size:=by obtain ⟨m,hm⟩:=k1;exact DataW.trod_lt m _ _ _ hm
 obtain ⟨a1,len1,cap1,rfl⟩:=okWide_slice Tryz.underlying23 (hval 1 23 v1 rfl rfl)
 obtain ⟨l1,hl1,hc1,hm1,hr1,ht1,hn1⟩:=open_texts h1
 have HT1:ArgT W a1 len1 l1:=argT_texts hl1 hr1 ht1 hn1 (by omega)
 have bn1:len1≤1048576:=by omega
 have k2:=h2
 have lt2:∀x∈p2,x.block < W.heap.size:=by obtain ⟨m,hm⟩:=k2;exact DataW.trod_lt m _ _ _ hm
 obtain ⟨x2,y2,z2,rfl,rfl,rfl,wx20,wy20,wz20⟩:=open_three (hval 2 24 v2 rfl rfl) h2
 have wx2:=i64_bounds wx20
 clear hA0
 refine (walk a0 a1 V0 l0 l1 len0 len1 cap0 cap1 x2 y2 z2 W HN0 HT1 bn1).mono fun e W' ⟨he,bel⟩=>?_
 subst he
 exact ⟨_,rfl,_,_,_,[],_,[],hW',trodAll_mk1 (shut_bool Tryz.underlying4 _),(trodAll_cons_mk (Below.trod laidOut (by kernel_rfl) (of_decide_eq_true (by kernel_rfl)) k0 bel lt0) (trodAll_cons_mk (Below.trod laidOut (by kernel_rfl) (of_decide_eq_true (by kernel_rfl)) k1 bel lt1) (trodAll_cons_mk (shut_three wx20 wy20 wz20) trodAll_mk0))),rfl,bel.frame _,fun h=>by cases h⟩
set_option maxRecDepth 100000 in
theorem lifted (os:Os) (started:os.Started) (H:Type) (enc:TypeId × Value→H) (F:Stop.Interp) :
  ReturnsInHanded {} Tryz.checked os 3 .any ((Rows.OpenSpec.upto Rows.pikeRunsSpec).pre6 enc Tryz.prog Tryz.f3 Rows.pikeRunsUptoRow.domain false) (((Rows.OpenSpec.upto Rows.pikeRunsSpec).at F).post enc Tryz.prog Tryz.f3 false true false false):=by
 refine returnsInHanded_of_cond (C:=Tryz.checked) (s:=Rows.OpenSpec.upto Rows.pikeRunsSpec) (k:=Rows.uptoSmall) rfl own started (by kernel_rfl) Tryz.func3
  (OpenSpec.witness (enc:=enc) (C:=Tryz.checked) (s:=Rows.OpenSpec.upto Rows.pikeRunsSpec) (k:=Rows.uptoSmall) rfl false ⟨#[],#[.slice none 0 0,.slice none 0 0,.agg #[.int .i64 0,.int .i64 0,.int .i64 0]],[]⟩ 8 (by kernel_rfl) (by kernel_rfl) (by kernel_rfl)
   (x:=([.nil,.nil,.agg [.lit (.int .i64 0),.lit (.int .i64 0),.lit (.int .i64 0)]],[],[])) (by kernel_rfl) rfl (by kernel_rfl)) ?_
 intro W base args ds gs before hval hW _ hk _
 exact contract H enc W base args ds gs before hval hW hk
theorem proved:Rows.PikeRunsUptoSaid :=
 OpenClaim.holds_of_cond 3 Tryz.f3 rfl rfl rfl rfl rfl rfl rfl ⟨rfl,rfl,rfl,rfl,rfl⟩ rfl rfl rfl rfl rfl (by kernel_rfl) Tryz.func3 (by kernel_rfl)
  (of_decide_eq_true (by kernel_rfl)) (by unfold Func.isWrapper;first | (rw [if_pos (by decide +kernel)];kernel_rfl) | (rw [if_neg (by decide +kernel)];exact ⟨rfl,rfl⟩))
  (fun os started H enc _ F=>lifted os started H enc F)
end Go.Proofs.YtegdbmbenjnacaaGreat.LawPikeRuns
