/-
  Texts of stage 7, part 22.
-/
import Derived.Deep.RegionHeld3
import Derived.BigRegion
import Derived.Deep.QuietTactic
import Derived.BigQuiet
import Derived.Deep.RegionLaw
import Derived.Deep.DeepCutAuto
import Derived.Test.YtdngaddggcmjgaaDoorW19
import Derived.Test.YtdngaddggcmjgaaDoorW20
namespace Go.Proofs.YtdngaddggcmjgaaDoor.Seg
open Go.Shelf Go.RowKit Go.Sort
open Utf hiding infoI32 rd_new own_form rdec_any below_drewN new_any write_any close_any
open Ucd hiding grow same Told
open Norm hiding new_any write_any close_any
theorem cut_any {w:World} {base f cf t:Nat} {Af:Option Addr} {F:List Int} (hown:w.ownsRow base 21 1 (.slice Af f cf) f (nums F)) (ht:t≤f) (u:World) :
  (Instr.slice 35 (.slice Af f cf) none (some (.int .i64 t)) none).run Tryd.prog u=.ok (.slice Af t cf) u:=by
 have he:Tryd.prog.elem 35=21:=by simp [Program.elem,Tryd.underlying35]
 have hf:f≤cf∧Af.map (fun a=>a.add 0)=Af:=by
  rcases hown.2 with ⟨h0,h1,_⟩ | ⟨g,cap,cur,hv,h1,h2,h3,h4,h5,h6⟩
  ·cases h0;exact ⟨Nat.le_refl _,rfl⟩
  ·cases hv
   have hadd:(⟨g,0,none⟩:Addr).add 0=⟨g,0,none⟩:=by unfold Addr.add;split <;> simp_all
   exact ⟨by omega,by rw [Option.map_some,hadd]⟩
 rw [run_slice_h u 35 Af f cf (by rw [he];exact Tryd.underlying35) .i64 (t:Int) (by omega) (by omega),he,Tryd.sizeOf21]
 simp [Result.andThen,sliced,hf.2]
def Tells (w:World) (B base sb db:Nat) (lim:Int) (dc:List Value) (vo v:Value) (T:List Sg) (O:List Pt) (e:Nat) (en:Ending) (w':World):Prop :=
 ∃v' vo',en=.returned v'∧w'.ownsRow B 72 3 v' (T++(shut ([],O)).map sgOf).length (sgs (T++(shut ([],O)).map sgOf))∧Sm w' base sb db lim dc vo' [] e e∧Chg w w' (fun k=>k=sb∨v.ownBlock=some k) ∧
  vo'.ownBlock=vo.ownBlock∧(∀g,v'.ownBlock=some g→w.heap.size≤g∨v.ownBlock=some g)
theorem shut_none (O:List Pt) (h:O=[]):shut (([],O):List (List Pt) × List Pt)=[]:=by subst h;rfl
theorem shut_some (O:List Pt) (h:O≠[]):shut (([],O):List (List Pt) × List Pt)=[O]:=by simp [shut,h]
set_option maxHeartbeats 2000000 in
set_option maxRecDepth 100000 in
theorem tell_none (B base sb db:Nat) (lim:Int) (dc:List Value) (vo v:Value) (T:List Sg) (a e:Nat) (w:World) (hS:Sm w base sb db lim dc vo [] a e)
  (hT:w.ownsRow B 72 3 v T.length (sgs T)) :
  Calls Tryd.prog 78 #[.pointer (some ⟨sb,0,none⟩),v] w (Tells w B base sb db lim dc vo v T [] e):=by
 obtain ⟨A,c,rfl,_⟩:=own_form hS.own
 have c2:=hS.blk.cell 2
 simp only [scs,List.getElem?_cons_succ,List.getElem?_cons_zero] at c2
 have e0:(fulls (runs [])).length=0:=rfl
 rw [e0] at c2
 have HS:=Lib.hid hS
 have HT:=Lib.hid hT
 clear hS hT e0
 go_enter Tryd.func78,Tryd.ntmps78
 go_wp2_with fail
 go_ret
 obtain rfl:=HS.out.reach.1 rfl
 exact ⟨v,_,rfl,by simpa [shut] using HT.out,HS.out,Chg.refl _ _,rfl,fun g h=>.inr h⟩
set_option maxHeartbeats 4000000 in
set_option maxRecDepth 100000 in
theorem tell_some (B base sb db:Nat) (lim:Int) (dc:List Value) (vo v:Value) (T:List Sg) (O:List Pt) (a e:Nat) (w:World) (hL:Laid w) (hS:Sm w base sb db lim dc vo O a e)
  (hT:w.ownsRow B 72 3 v T.length (sgs T)) (hB:B≤w.heap.size) (hO:O≠[]) (hsm:flen O≤1073741824) (hTm:T.length≤1073741824) :
  Calls Tryd.prog 78 #[.pointer (some ⟨sb,0,none⟩),v] w (Tells w B base sb db lim dc vo v T O e):=by
 obtain ⟨i0,hi,hz0,hz1,hz2⟩:=info_parts infoSg
 obtain ⟨A,c,rfl,hc,hcm,hr⟩:=own_form hS.own
 have hvn:=own_apart hT hS.own (by decide)
 have hpos:=flen_pos hO
 have hsay:saysN (fulls (runs O))=says O:=by rw [saysN,normal_fulls];rfl
 have hne:=own_ne hT hS.blk (by decide)
 have hnf:=hS.ne
 have hcut:=cut_any (t:=0) hS.own (Nat.zero_le _)
 have c2:=hS.blk.cell 2
 have c3:=hS.blk.cell 3
 have c4:=hS.blk.cell 4
 simp only [scs,List.getElem?_cons_succ,List.getElem?_cons_zero] at c2 c3 c4
 obtain ⟨ha,he⟩:=hS.reach.2 hO
 have hlt:=hS.blk.lt
 have HS:=Lib.hid hS
 have HT:=Lib.hid hT
 have HSAY:=Lib.hid hsay
 have HRE:=Lib.hid (show sgOf O=⟨says O,a,e⟩ by rw [sgOf,ha,he])
 have HO:=Lib.hid hO
 have HVN:=Lib.hid hvn
 have HNE:=Lib.hid hne
 have HNF:=Lib.hid hnf
 obtain ⟨f,hf⟩:∃f,f=flen O:=⟨_,rfl⟩
 have hff:(fulls (runs O)).length=f:=hf.symm
 rw [hff] at c2 hcut hc
 have HFF:=Lib.hid hff
 rw [←hf] at hpos hsm
 have HNM:=Lib.hid (fun (u:World) (h:Laid u) (hr:Rd u u.heap.size A (nums (fulls (runs O))))=>normal_any A (fulls (runs O)) f c u h hr hff (by omega))
 have hXl:(normal (fulls (runs O))).length=f:=by rw [normal_fulls,normal_len];exact hff
 have HX:=Lib.hid (show saysN (fulls (runs O))=str (enc (normal (fulls (runs O)))) from rfl)
 generalize normal (fulls (runs O))=X at HNM hXl HX
 have HXL:=Lib.hid hXl
 have HR:=Lib.hid hr
 have HL:=Lib.hid hL
 have HCUT:=Lib.hid hcut
 clear hS hT hvn hsay hne hnf hO ha he hf hff hXl hr hL hcut
 have hf0:((f:Int) == 0)=false:=by simp;omega
 go_enter Tryd.func78,Tryd.ntmps78
 go_wp2_with fail
 refine (HNM.out w HL.out HR.out).mono ?_
 rintro e1 w1 ⟨v1,rfl,ho1,hb1⟩
 obtain ⟨A1,c1,rfl,_,_,hr1⟩:=own_form ho1
 have HR1:=Lib.hid hr1
 have HB1:=Lib.hid hb1
 clear ho1 hr1 hb1 HNM
 go_wp2_with fail
 refine (encode_any A1 X X.length c1 w1 HR1.out rfl (by have:=HXL.out;omega)).mono ?_
 rintro e2 w2 ⟨v2,rfl,ho2,hb2⟩
 obtain ⟨A2,c2',rfl,_,_,hr2⟩:=Utf.own_form ho2
 have hcv:=conv_rd (c:=c2') hr2 rfl
 rw [show (⟨(enc X).toArray⟩:ByteArray)=says O from by rw [←HSAY.out,HX.out];rfl] at hcv
 have HB2:=Lib.hid (HB1.out.trans (hb2.mono HB1.out.size))
 have HS2:=Lib.hid (HS.out.next HB2.out)
 have HT2:=Lib.hid (Ucd.own_below HT.out HB2.out)
 clear ho2 hr2 hb2 c2 c3 c4 HR1 HB1
 generalize says O=st at hcv HRE
 obtain ⟨bb,hbb⟩:∃bb,bb=HB2.out.size:=⟨_,rfl⟩
 have hbase:B≤w2.heap.size:=Nat.le_trans hB HB2.out.size
 have c2:=HS2.out.blk.cell 2
 have c3:=HS2.out.blk.cell 3
 have c4:=HS2.out.blk.cell 4
 simp only [scs,List.getElem?_cons_succ,List.getElem?_cons_zero] at c2 c3 c4
 rw [HFF.out] at c2
 have hsb:=HS2.out.blk.lt
 clear bb hbb
 go_wp2_with fail
 go_region_held3 (fun w'=>w'.cell? ⟨sb,3,none⟩=some (.int .i64 a)∧w'.cell? ⟨sb,4,none⟩=some (.int .i64 e))
  (first
   | go_keep
   | (
    go_split_ands
    refine ⟨?_,?_⟩
    ·(rw [hgr6.cell_far _ (by simp;omega) (Ne.symm HNE.out)];assumption)
    ·(rw [hgr6.cell_far _ (by simp;omega) (Ne.symm HNE.out)];assumption)))
  ((refine step_append_rd (by rfl) _ _ _ (by rfl) B 72 i0 _ 3 32 Tryd.underlying45 hi hz0 hz1 hz2 rfl (by decide) v T.length (sgs T) (by rfl) ((HT2.out.alloc _).drew) _ (some ⟨w2.heap.size,0,none⟩) 1 1 [.string st,.int .i64 a,.int .i64 e] (by rfl) (by rfl) (rd_new _ _ [.string st,.int .i64 a,.int .i64 e] _ (by simp)) (by simp [Value.oneCell']) (by unfold maxLen;omega) (by omega) (by simp;omega) ?_;intro v6 w6 hown6 hgr6 hat6))
 have hC6:Chg w2 w6 (fun k=>v.ownBlock=some k):=((Chg.refl w2 _).and_below ((Below.refl _ _).alloc (Nat.le_refl _) _).drew).grown hgr6 (fun i _ h=>h)
 have hS6:=HS2.out.keep hC6 HNE.out (own_ne HT2.out (show Blk _ _ _ _ from HS2.out.dec) (by decide)) (fun k h1 h2=>HVN.out k h2 h1)
 rw [show ([Value.string st,.int .i64 a,.int .i64 e]:List Value)=sgs [⟨st,a,e⟩] from rfl,←sgs_append] at hown6
 have HO6:=Lib.hid hown6
 have HC6:=Lib.hid hC6
 have HS6:=Lib.hid hS6
 have HA6:=Lib.hid hat6
 clear c2 c3 c4 hgr6 hown6 hat6 hC6 hS6
 have c2:=HS6.out.blk.cell 2
 have c3:=HS6.out.blk.cell 3
 have c4:=HS6.out.blk.cell 4
 have f2:=HS6.out.blk.frozen 2
 have f3:=HS6.out.blk.frozen 3
 simp only [scs,List.getElem?_cons_succ,List.getElem?_cons_zero] at c2 c3 c4
 rw [HFF.out] at c2
 have hcut:∀u:World,(Instr.slice 35 (.slice A f c) none (some (.int .i64 0)) none).run Tryd.prog u=.ok (.slice A 0 c) u:=fun u=>HCUT.out u
 clear hcv HT2 HS2 hbase hB hsb hlt
 go_wp2_with fail
 go_region
 all_goals go_wp2_with fail
 go_ret
 have hb6:=HS6.out.blk
 have hne6:=own_ne HO6.out hb6 (by decide)
 have hW2:=((hb6.set_ 2 (.slice A 0 c)).set_ 3 (.int .i64 e))
 have hx:=HS6.out.own
 rw [HFF.out] at hx
 obtain ⟨g,cap,hv,_⟩:=hx.form hpos
 injection hv with hv1 _ hv2
 subst hv1 hv2
 have hpre:w6.ownsRow base 21 1 (.slice (some ⟨g,0,none⟩) 0 c) (fulls (runs [])).length (nums (fulls (runs []))):=Norm.own_prefix hx (Nat.zero_le f)
 have hvo:(Value.slice (some ⟨g,0,none⟩) 0 c).ownBlock≠some sb:=HNF.out
 have hdb:db≠sb:=fun h=>HS6.out.apart h.symm
 have hC:=(((Chg.of_below (S:=fun k=>k=sb∨v.ownBlock=some k) HB2.out (Nat.le_refl _)).trans (HC6.out.more (T:=fun k=>k=sb∨v.ownBlock=some k) fun i h=>.inr h) (fun _ _ h=>h)).setCell (p:=⟨sb,2,none⟩) (.slice (some ⟨g,0,none⟩) 0 c) (.inl rfl)).setCell (p:=⟨sb,3,none⟩) (.int .i64 e) (.inl rfl)
 refine ⟨v6,.slice (some ⟨g,0,none⟩) 0 c,rfl,?_,⟨hW2,(show Blk _ _ _ _ from HS6.out.dec).far hdb _ |>.far hdb _,?_,HS6.out.le,HS6.out.led,Reach.start e⟩,hC.and_below (Below.refl _ _).drew,rfl,fun k hk=>?_⟩
 ·rw [shut_some O HO.out,List.map_singleton,HRE.out,List.length_append]
  exact (own_set (own_set HO6.out hne6 _) hne6 _).drew
 ·exact (own_set (own_set hpre hvo _) hvo _).drew
 ·rcases HA6.out with h | h
  ·exact .inr (h ▸ hk)
  ·left
   rw [h] at hk
   injection hk with hk
   have:=HB2.out.size
   simp at hk
   omega
theorem tell_any (B base sb db:Nat) (lim:Int) (dc:List Value) (vo v:Value) (T:List Sg) (O:List Pt) (a e:Nat) (w:World) (hL:Laid w) (hS:Sm w base sb db lim dc vo O a e)
  (hT:w.ownsRow B 72 3 v T.length (sgs T)) (hB:B≤w.heap.size) (hsm:flen O≤1073741824) (hTm:T.length≤1073741824) :
  Calls Tryd.prog 78 #[.pointer (some ⟨sb,0,none⟩),v] w (Tells w B base sb db lim dc vo v T O e):=by
 by_cases hO:O=[]
 ·subst hO;exact tell_none B base sb db lim dc vo v T a e w hS hT
 ·exact tell_some B base sb db lim dc vo v T O a e w hL hS hT hB hO hsm hTm
end Go.Proofs.YtdngaddggcmjgaaDoor.Seg
namespace Go.Proofs.YtdngaddggcmjgaaDoor.Seg
open Go.Shelf Go.RowKit Go.Sort
open Utf hiding infoI32 rd_new own_form rdec_any below_drewN new_any write_any close_any
open Ucd hiding grow same Told
open Norm hiding new_any write_any close_any
set_option maxRecDepth 100000
theorem gstep_len {α:Type} (op:α→Bool) (s:List (List α) × List α) (q:α):(gstep op s q).1.length≤s.1.length+1:=by unfold gstep;split <;> simp
theorem go_len {α:Type} (op:α→Bool) (f:List α→Nat) (L:Nat):∀(ps:List α) (T:List (List α)) (O:List α),(go op f L T O ps).1.length≤T.length+ps.length
 | [],T,O=>Nat.le_refl _
 | q :: t,T,O=>by
  have h:=gstep_len op (T,O) q
  simp only [go]
  split
  ·simp only [List.length_cons] at h ⊢;omega
  ·have:=go_len op f L t (gstep op (T,O) q).1 (gstep op (T,O) q).2
   simp only [List.length_cons] at h ⊢;omega
theorem go_open {L:Nat} {ps:List Pt} {O O1:List Pt} {T:List (List Pt)} (h:go opP flen L [] O ps=(T,O1,false)):flen O1≤flen O+3*ps.length:=by
 have h1:=(go_false opP flen L ps [] O h).1
 have h2:=gfold_flat opP ps ([],O)
 rw [h1] at h2
 simp only [List.flatten_nil,List.nil_append] at h2
 have h3:=congrArg flen h2
 rw [flen_append,flen_append] at h3
 have:=flen_le ps
 omega
theorem gstep_two (T:List (List Pt)) (O:List Pt) (q:Pt):(∀Z:List Pt,Z=[]→opP q=true→gstep opP (T,O) q=(T++shut ([],O),Z++[q]))∧(opP q=false→gstep opP (T,O) q=(T,O++[q])):=by
 refine ⟨fun Z hZ h=>?_,fun h=>gstep_on opP (.inl h)⟩
 subst hZ
 by_cases hO:O=[]
 ·subst hO;rw [gstep_on opP (.inr rfl),shut_none [] rfl];simp
 ·rw [gstep_new opP h hO,shut_some O hO];simp
def Takes (w:World) (base sb db lim:Nat) (dc:List Value) (vo:Value) (O:List Pt) (e:Nat) (ps:List Pt) (en:Ending) (w':World):Prop :=
 ∃v T O' b,go opP flen lim [] O ps=(T,O',b)∧en=.returned (.tuple #[v,.int .i64 (if b then 6 else 0)])∧w'.ownsRow w.heap.size 72 3 v (T.map sgOf).length (sgs (T.map sgOf))∧Chg w w' (Hers sb db vo) ∧
  (b=false→∃vo' a',Sm w' base sb db lim dc vo' O' a' (e+ww ps)∧∀g,vo'.ownBlock=some g→w.heap.size≤g∨vo.ownBlock=some g)∧(b=true→Done w' sb 6)
structure Tk (w wr:World) (base sb db lim:Nat) (dc:List Value) (vo:Value) (O:List Pt) (e:Nat) (ps:List Pt) (bp m c:Nat) (A:Option Addr) (k:Nat) (T:List (List Pt)) (O1:List Pt) (vl vo1:Value) (a1:Nat):Prop where
 go:go opP flen lim [] O (ps.take k)=(T,O1,false)
 told:wr.ownsRow w.heap.size 72 3 vl (T.map sgOf).length (sgs (T.map sgOf))
 sm:Sm wr base sb db lim dc vo1 O1 a1 (e+ww (ps.take k))
 chg:Chg w wr (Hers sb db vo)
 org:∀g,vo1.ownBlock=some g→w.heap.size≤g∨vo.ownBlock=some g
 pts:wr.ownsRow bp 51 3 (.slice A m c) m (pts ps)
def Two (sb:Nat) (v:Value) (k:Nat):Prop:=k=sb∨v.ownBlock=some k
theorem go_stays {L:Nat} {a b O:List Pt} {T:List (List Pt)} {O1:List Pt} (h:go opP flen L [] O a=(T,O1,true)):go opP flen L [] O (a++b)=(T,O1,true):=by
 rw [go_append,h];simp
theorem go_big {lim k N7:Nat} {O O1 O2 ps:List Pt} {T T2:List (List Pt)} {p:Pt} (hgs:go opP flen lim [] O (ps.take (k+1))=((gstep opP (T,O1) p).1,(gstep opP (T,O1) p).2,decide (lim < flen (gstep opP (T,O1) p).2)))
  (hg2:gstep opP (T,O1) p=(T2,O2++[p])) (hN:N7=flen (O2++[p])) (hb:lim < N7):go opP flen lim [] O ps=(T2,O2++[p],true):=by
 rw [hg2] at hgs
 simp only at hgs
 rw [←hN,decide_eq_true hb] at hgs
 have:=go_stays (b:=ps.drop (k+1)) hgs
 rwa [List.take_append_drop] at this
theorem go_small {lim k N7:Nat} {O O1 O2 ps:List Pt} {T T2:List (List Pt)} {p:Pt} (hgs:go opP flen lim [] O (ps.take (k+1))=((gstep opP (T,O1) p).1,(gstep opP (T,O1) p).2,decide (lim < flen (gstep opP (T,O1) p).2)))
  (hg2:gstep opP (T,O1) p=(T2,O2++[p])) (hN:N7=flen (O2++[p])) (hb:¬lim < N7):go opP flen lim [] O (ps.take (k+1))=(T2,O2++[p],false):=by
 rw [hg2] at hgs
 simp only at hgs
 rwa [←hN,decide_eq_false hb] at hgs
section step
variable {w w2 u:World} {base sb db lim e bp m c a2 E:Nat} {dc:List Value} {vo vl2 v2 v6:Value} {O ps O2:List Pt} {T2:List (List Pt)} {A:Option Addr} {p:Pt}
theorem told_step (hT:w2.ownsRow w.heap.size 72 3 vl2 (T2.map sgOf).length (sgs (T2.map sgOf))) (hS:Sm w2 base sb db lim dc v2 O2 a2 E) (hC:Chg w2 u (Two sb v2)):u.ownsRow w.heap.size 72 3 vl2 (T2.map sgOf).length (sgs (T2.map sgOf)) :=
 Norm.own_keep hT hC fun g hg h=>by
  rcases h with h | h
  ·exact own_ne hT hS.blk (by decide) (h ▸ hg)
  ·exact own_apart hT hS.own (by decide) g hg h
theorem chg_step (hC2:Chg w w2 (Hers sb db vo)) (hV:∀g,v2.ownBlock=some g→w.heap.size≤g∨vo.ownBlock=some g) (hC:Chg w2 u (Two sb v2)):Chg w u (Hers sb db vo) :=
 hC2.trans hC fun i hi h=>by
  rcases h with h | h
  ·exact .inl h
  ·rcases hV i h with h | h
   ·omega
   ·exact .inr (.inr h)
theorem sm_step (hS:Sm w2 base sb db lim dc v2 O2 a2 E) (hC:Chg w2 u (Two sb v2)) (hp:p.p=E) {N7:Nat} {F7:List Int} (hN:N7=F7.length) (hF:fulls (runs (O2++[p]))=F7)
  (hB:Blk u sb 107 (scs lim (.pointer (some ⟨db,0,none⟩)) v6 a2 (p.p+p.w) 0)) (hO:u.ownsRow base 21 1 v6 N7 (nums F7)):Sm u base sb db lim dc v6 (O2++[p]) a2 (E+p.w):=by
 refine ⟨by rw [←hp];exact hB,blk_keep (show Blk _ _ _ _ from hS.dec) hC (fun h=>?_),by rw [hF,←hN];exact hO,hS.le,hS.led,?_⟩
 ·rcases h with h | h
  ·exact hS.apart h.symm
  ·exact hS.ned h
 ·have:=hS.reach.put hp
  rwa [hp] at this
theorem pts_step (hP:w2.ownsRow bp 51 3 (.slice A m c) m (pts ps)) (hS:Sm w2 base sb db lim dc v2 O2 a2 E) (hC:Chg w2 u (Two sb v2)):u.ownsRow bp 51 3 (.slice A m c) m (pts ps) :=
 Norm.own_keep hP hC fun g hg h=>by
  rcases h with h | h
  ·exact own_ne hP hS.blk (by decide) (h ▸ hg)
  ·exact own_apart hP hS.own (by decide) g hg h
theorem org_step (hS:w.heap.size≤w2.heap.size) (hV:∀g,v2.ownBlock=some g→w.heap.size≤g∨vo.ownBlock=some g) (hA:∀g,v6.ownBlock=some g→w2.heap.size≤g∨v2.ownBlock=some g):∀g,v6.ownBlock=some g→w.heap.size≤g∨vo.ownBlock=some g:=fun g hg=>by
 rcases hA g hg with h | h
 ·left;omega
 ·exact hV g h
end step
set_option maxHeartbeats 8000000 in
theorem take_any (base sb db lim a e m c bp:Nat) (dc:List Value) (vo:Value) (O ps:List Pt) (A:Option Addr) (w:World) (hL:Laid w) (hS:Sm w base sb db lim dc vo O a e)
  (hP:w.ownsRow bp 51 3 (.slice A m c) m (pts ps)) (hm:ps.length=m) (hti:Tile e ps) (hb:base≤w.heap.size) (hg:5 < base) (hsm:flen O+3*m≤1073741824) (he:e+ww ps≤1099511627776) :
  Calls Tryd.prog 77 #[.pointer (some ⟨sb,0,none⟩),.slice A m c] w (Takes w base sb db lim dc vo O e ps):=by
 obtain ⟨i0,hi,hz0,hz1,hz2⟩:=info_parts Ucd.infoI32
 have H0:=Lib.hid (show Tk w w base sb db lim dc vo O e ps bp m c A 0 [] O (.slice none 0 0) vo a from
  ⟨rfl,World.ownsRow_nil _ _ _ _,by simpa [ww_nil] using hS,Chg.refl _ _,fun g h=>.inr h,hP⟩)
 have HLOW:=Lib.hid (fun i (hi:i < base)=>hS.hers hi)
 have HL:=Lib.hid hL;have HM:=Lib.hid hm;have HTI:=Lib.hid hti;have HSM:=Lib.hid hsm;have HE:=Lib.hid he
 have hm1:m≤1073741824:=by omega
 clear hL hS hP hm hti hsm he
 go_enter Tryd.func77,Tryd.ntmps77
 go_wp2_with fail
 go_loopw [6,11] (fun vl i wr=>∃(k:Nat) (T:List (List Pt)) (O1:List Pt) (vo1:Value) (a1:Nat),k≤m∧i=.int .i64 k∧Hid (Tk w wr base sb db lim dc vo O e ps bp m c A k T O1 vl vo1 a1)) (fun _ i _=>m - (intOf i).toNat)
 case atStart=>exact ⟨0,[],O,vo,a,Nat.zero_le _,rfl,H0⟩
 case round =>
  obtain ⟨k,T,O1,vo1,a1,hk,rfl,H1⟩:=hrel
  clear H0
  by_cases hlt:k < m
  ·have hkl:k < ps.length:=by rw [HM.out];exact hlt
   have hrd:=Rd.of_own H1.out.pts
   obtain ⟨bq,oq,rfl,hbq⟩:=hrd.form (by rw [pts_len];omega)
   obtain ⟨p1,p2,p3⟩:=hrd.pt hkl
   have hts:ps.take (k+1)=ps.take k++[ps[k]]:=List.take_succ_eq_append_getElem hkl
   have htl:=HTI.out
   rw [←List.take_append_drop k ps,tile_append] at htl
   have hq1:ps[k].p=e+ww (ps.take k):=by
    have:=htl.2
    rw [List.drop_eq_getElem_cons hkl] at this
    exact this.1
   have hww:ww (ps.take (k+1))≤ww ps:=by
    have:=ww_append (ps.take (k+1)) (ps.drop (k+1))
    rw [List.take_append_drop] at this
    omega
   have hgs:=go_snoc opP flen lim (ps.take k) ps[k] [] O H1.out.go
   have hgo:=go_open H1.out.go
   have hgl:=go_len opP flen lim (ps.take k) [] O
   rw [H1.out.go] at hgl
   simp only [List.length_nil,List.length_take,Nat.zero_add] at hgl hgo
   rw [←hts] at hgs
   obtain ⟨p,hp⟩:∃p,p=ps[k]:=⟨_,rfl⟩
   rw [←hp] at p1 p2 p3 hts hq1 hgs
   rw [hts,ww_append,ww_cons,ww_nil,Nat.add_zero] at hww
   obtain ⟨E,hEE⟩:∃E,E=e+ww (ps.take k):=⟨_,rfl⟩
   have hEb:E+p.w≤1099511627776:=by have:=HE.out;omega
   rw [←hEE] at hq1
   have HTS:=Lib.hid hts;have HGS:=Lib.hid hgs;have HQ1:=Lib.hid hq1;have HEE:=Lib.hid hEE
   have hTl:(T.map sgOf).length≤1073741824:=by rw [List.length_map];omega
   have hO1:flen O1+3≤1073741824:=by have:=HSM.out;omega
   have HO1:=Lib.hid hO1;have HTL:=Lib.hid hTl
   have HS1:=Lib.hid H1.out.sm
   rw [←hEE] at HS1
   have hLr:=HL.out.below (H1.out.chg.below hb HLOW.out) hg
   obtain ⟨x,hx⟩:∃x:Int,x=(p.r:Int):=⟨_,rfl⟩
   obtain ⟨y,hy⟩:∃y:Int,y=(p.p:Int):=⟨_,rfl⟩
   obtain ⟨z,hz⟩:∃z:Int,z=(p.w:Int):=⟨_,rfl⟩
   rw [←hx] at p1;rw [←hy] at p2;rw [←hz] at p3
   have HX:=Lib.hid hx;have HY:=Lib.hid hy;have HZ:=Lib.hid hz
   have hyz:0≤y∧0≤z∧y+z≤1099511627776:=by omega
   obtain ⟨hy0,hz0',hyz1⟩:=hyz
   obtain ⟨wp,hwp⟩:∃wp,wp=wr.alloc (.cells #[.int .i32 x,.int .i64 y,.int .i64 z] 51):=⟨_,rfl⟩
   have HWP:=Lib.hid hwp
   have HOP:=Lib.hid (opens_any x wp (by rw [hwp];exact hLr.alloc _))
   have hbp:Below wr.heap.size wr wp:=by rw [hwp];exact (Below.refl _ _).alloc (Nat.le_refl _) _
   have hPB:Blk wp wr.heap.size 51 [.int .i32 x,.int .i64 y,.int .i64 z]:=by rw [hwp];exact Blk.new wr _ _
   have HBP:=Lib.hid hbp;have HPB:=Lib.hid hPB;have HLR:=Lib.hid hLr
   have HYZ:=Lib.hid (show y+z=((p.p+p.w:Nat):Int) by omega)
   clear hkl hrd hbq hts htl hq1 hww hgs hgo hgl hp hEE hO1 hTl hLr hx hy hz hwp hbp hPB
   go_wp2_with fail
   rw [←HWP.out]
   have hplt:wr.heap.size < wp.heap.size:=by rw [HWP.out];simp
   have HPLT:=Lib.hid hplt
   have HG0:=Lib.hid (gstep_two T O1 p)
   clear hplt
   cases hop:opP p with
   | true =>
    have hox:opn x=true:=by rw [HX.out];exact hop
    rw [hox] at HOP
    obtain ⟨O2,hO2⟩:∃Z:List Pt,Z=[]:=⟨_,rfl⟩
    have HG2:=Lib.hid (HG0.out.1 O2 hO2 hop)
    have HZ:=Lib.hid hO2
    clear hO2
    clear hox hop HG0
    refine HOP.out.mono ?_
    rintro e1 w1 ⟨rfl,hb1⟩
    have HB1:=Lib.hid (HBP.out.trans (hb1.mono HBP.out.size))
    have HS1':=Lib.hid (HS1.out.next HB1.out)
    have HT1:=Lib.hid (Ucd.own_below H1.out.told HB1.out)
    have HPT1:=Lib.hid (Ucd.own_below H1.out.pts HB1.out)
    have HPB1:=Lib.hid (HPB.out.below hb1 HPLT.out)
    have HL1:=Lib.hid (HLR.out.next HB1.out)
    have HC1:=Lib.hid (H1.out.chg.and_below HB1.out)
    clear hb1
    go_wp2_with fail
    refine (tell_any w.heap.size base sb db lim dc vo1 u6 (T.map sgOf) O1 a1 E w1 HL1.out HS1'.out HT1.out HC1.out.size (by have:=HO1.out;omega) HTL.out).mono ?_
    rintro e2 w2 ⟨vl2,vo2,rfl,ho2,hS2,hC2,hv2,ha2⟩
    rw [←List.map_append] at ho2
    have hin:∀i,i < w.heap.size→(i=sb∨u6.ownBlock=some i)→Hers sb db vo i:=fun i hi h=>by
     rcases h with h | h
     ·exact .inl h
     ·have:=(H1.out.told.lt i h).1;omega
    have HC2:=Lib.hid (HC1.out.trans hC2 hin)
    have hpb:¬(wr.heap.size=sb∨u6.ownBlock=some wr.heap.size):=fun h=>by
     rcases h with h | h
     ·have:=HS1.out.blk.lt;omega
     ·have:=(H1.out.told.lt _ h).2;omega
    have HPB2:=Lib.hid (blk_keep HPB1.out hC2 hpb)
    have HP2:=Lib.hid (Norm.own_keep HPT1.out hC2 (fun g hg h=>by
     rcases h with h | h
     ·exact own_ne HPT1.out HS1'.out.blk (by decide) (h ▸ hg)
     ·exact own_apart HPT1.out HT1.out (by decide) g hg h))
    have HL2:=Lib.hid (HL.out.below (HC2.out.below hb HLOW.out) hg)
    have HV2:=Lib.hid (show ∀g,vo2.ownBlock=some g→w.heap.size≤g∨vo.ownBlock=some g from fun g h=>H1.out.org g (hv2 ▸ h))
    have HF2:=Lib.hid (show flen O2+3≤1073741824 by rw [HZ.out];show 0+3≤_;omega)
    have HT2:=Lib.hid ho2
    rw [←HZ.out] at hS2
    have HS2:=Lib.hid hS2
    clear ho2 hS2 hC2 hv2 ha2 hin hpb HB1 HS1' HT1 HPT1 HPB1 HL1 HC1 HS1 HO1
    generalize T++shut ([],O1)=T2 at *
    obtain ⟨A2,ca2,rfl,_⟩:=own_form HS2.out.own
    have HOW:=Lib.hid HS2.out.own
    have HD:=Lib.hid (decompose_any x)
    have h3:=full_three x
    have HFR:=Lib.hid (show fulls (runs (O2++[p]))=fulls (runs O2)++fullF x by rw [runs_append,fulls_append,HX.out];simp [runs,fulls])
    have hfl:(fulls (runs O2)).length+3≤1073741824:=HF2.out
    obtain ⟨F2,hF2⟩:∃F2,F2=fulls (runs O2):=⟨_,rfl⟩
    have c2:w2.cell? ⟨sb,2,none⟩=some (.slice A2 (fulls (runs O2)).length ca2):=HS2.out.blk.cell 2
    have c20:w2.cell? ⟨wr.heap.size,0,none⟩=some (.int .i32 x):=HPB2.out.cell 0
    rw [←hF2] at HOW HFR hfl c2
    obtain ⟨f2,hf2⟩:∃f2,f2=F2.length:=⟨_,rfl⟩
    rw [←hf2] at HOW hfl c2
    have hs2:=HS2.out
    have hv2:=HV2.out
    rw [←hF2,←hf2] at hs2 hv2
    clear HS2 HV2
    have HS2:=Lib.hid hs2
    have HV2:=Lib.hid hv2
    have HF2L:=Lib.hid hf2
    clear hs2 hv2
    obtain ⟨D,hDD⟩:∃D,D=fullF x:=⟨_,rfl⟩
    rw [←hDD] at HFR h3
    have HDD:=Lib.hid hDD
    have hsbp:sb≠wr.heap.size:=blk_apart HS2.out.blk HPB2.out (by decide)
    have HSBP:=Lib.hid hsbp
    clear hF2 hf2 hDD hsbp
    go_wp2_with fail
    go_region_law (first
     | (
      refine step_append_rd rfl (.tmp 25) (.tmp 28) _ rfl base 21 i0 _ 1 4 Tryd.underlying35 hi hz0 hz1 hz2 rfl (by decide) (.slice A2 f2 ca2) f2 (nums F2) rfl HOW3.out _ A3 D.length c3 (nums D) rfl (by rw [nums_len,Nat.mul_one]) HR3.out (nums_one D) (by unfold maxLen;omega) (by omega) HSZ3.out ?_
      intro v6 w6 hown6 hgr6 hat6
      obtain ⟨A6,c6,rfl,_,_,_⟩:=own_form hown6
      have HO6:=Lib.hid hown6
      have HG6:=Lib.hid hgr6
      have HA6:=Lib.hid hat6
      have HB6:=Lib.hid (HB3.out.grown hgr6 (fun h=>HNE.out h.symm))
      have c2:=HB6.out.cell 2
      have f26:=HB6.out.frozen 2
      have HPB6:=Lib.hid (HPB3.out.grown hgr6 (fun h=>HNP.out h.symm))
      have HA7:=Lib.hid (show ∀g,(Value.slice A6 (f2+D.length) c6).ownBlock=some g→w2.heap.size≤g∨(Value.slice A2 f2 ca2).ownBlock=some g from fun g hg=>by
       rcases hat6 with h | h
       ·exact .inr (h ▸ hg)
       ·left;rw [h] at hg;injection hg with hg;have:=HB23.out.size;simp at this;omega)
      have HC6:=Lib.hid ((((Chg.refl w2 (Two sb (.slice A2 f2 ca2))).and_below (Below.refl _ _).drew).and_below HB23.out).grown hgr6 (fun i _ h=>.inr h))
      simp only [scs,List.getElem?_cons_succ,List.getElem?_cons_zero] at c2
      clear hown6 hgr6 hat6)
     | (
      go_simp
      go_at_call 54
      refine (HD.out w2.drew HL2.out.drew).mono ?_
      rintro e3 w3 ⟨v3,rfl,ho3,hb3⟩
      rw [←HDD.out] at ho3
      have HB23:=Lib.hid hb3
      have HS3:=Lib.hid (HS2.out.next ((Below.refl _ _).drew.trans (hb3.mono (Nat.le_refl _))))
      have HB3:=Lib.hid HS3.out.blk
      have hne3:=HS3.out.ne
      have HNE:=Lib.hid hne3
      have HPB3:=Lib.hid (Blk.below (w:=w2.drew) HPB2.out hb3 HPB2.out.lt)
      have HOW3:=Lib.hid (Ucd.own_below HOW.out.drew hb3)
      obtain ⟨A3,c3,rfl,_,_,hr3⟩:=own_form ho3
      have HR3:=Lib.hid hr3
      have HNP:=Lib.hid (own_ne HOW3.out HPB3.out (by decide))
      have HSZ3:=Lib.hid (show base≤w3.heap.size from Nat.le_trans (Nat.le_trans hb HC2.out.size) hb3.size)
      have c2:w3.cell? ⟨sb,2,none⟩=some (.slice A2 f2 ca2):=by have:=HS3.out.blk.cell 2;simp only [scs,List.getElem?_cons_succ,List.getElem?_cons_zero] at this;exact this
      have c20:w3.cell? ⟨wr.heap.size,0,none⟩=some (.int .i32 x):=(Blk.below (w:=w2.drew) HPB2.out hb3 HPB2.out.lt).cell 0
      clear ho3 hr3 hb3 hne3))
    all_goals
     have hB7:=HB6.out.set_ 2 (.slice A6 (f2+D.length) c6)
     have hP7:Blk (w6.setCell ⟨sb,2,none⟩ (.slice A6 (f2+D.length) c6)) wr.heap.size 51 [.int .i32 x,.int .i64 y,.int .i64 z]:=HPB6.out.far (fun h=>HSBP.out h.symm) _
     have hO7:=own_set HO6.out (own_ne HO6.out HB6.out (by decide)) (o:=2) (.slice A6 (f2+D.length) c6)
     have hC7:Chg w2 (w6.setCell ⟨sb,2,none⟩ (.slice A6 (f2+D.length) c6)) (Two sb (.slice A2 f2 ca2)):=HC6.out.setCell (p:=⟨sb,2,none⟩) _ (.inl rfl)
     have HN7:=Lib.hid (show f2+D.length=(F2++D).length by rw [List.length_append,HF2L.out])
     have hN7b:f2+D.length≤1073741824:=by omega
     obtain ⟨u7,hu7⟩:∃u7,u7=w6.setCell ⟨sb,2,none⟩ (.slice A6 (f2+D.length) c6):=⟨_,rfl⟩
     rw [←hu7] at hB7 hP7 hO7 hC7 ⊢
     rw [←nums_append] at hO7
     have HA8:=HA7
     clear c2 f26 hu7 HB6 HPB6 HO6 HC6 HA7 HA6 HG6 HOW3 HS3 HB3 HNE HR3 HB23 HSZ3 HPB3 HNP c20
     generalize f2+D.length=N7 at *
     have c0:=hB7.cell 0
     have c2:=hB7.cell 2
     have c4:=hB7.cell 4
     have f4:=hB7.frozen 4
     have d1:=hP7.cell 1
     have d2:=hP7.cell 2
     simp only [scs,List.getElem?_cons_succ,List.getElem?_cons_zero,List.set_cons_zero,List.set_cons_succ] at c0 c2 c4 d1 d2
     have HB7:=Lib.hid hB7
     have HO7:=Lib.hid hO7
     have HC7:=Lib.hid hC7
     clear hB7 hO7 hC7 hP7
     by_cases hbig:lim < N7
     ·have hd:decide (lim < N7)=true:=decide_eq_true hbig
      go_wp2_with fail
      go_quiet (fail)
      have hB9:=(HB7.out.set_ 4 (.int .i64 (y+z))).drewN nq
      have e9:((scs (lim:Int) (.pointer (some ⟨db,0,none⟩)) (.slice A2 f2 ca2) E E 0).set 2 (.slice A6 N7 c6)).set 4 (.int .i64 (y+z))=scs lim (.pointer (some ⟨db,0,none⟩)) (.slice A6 N7 c6) E (p.p+p.w) 0:=by rw [HYZ.out];rfl
      rw [e9] at hB9
      have HB9:=Lib.hid hB9
      have HC9:=Lib.hid ((HC7.out.setCell (p:=⟨sb,4,none⟩) (.int .i64 (y+z)) (.inl rfl)).and_below (below_drewN (Below.refl _ _) nq))
      have HGO:=Lib.hid (go_big HGS.out HG2.out (show N7=flen (O2++[p]) by rw [flen,HFR.out,HN7.out]) hbig)
      clear hB9 e9 hbig hd c0 c2 c4 f4 d1 d2
      go_wp2_with fail
      refine (stop_any sb lim 0 6 _ _ E (p.p+p.w) _ HB9.out).mono ?_
      rintro e9 w9 ⟨rfl,hD9,hC9⟩
      have HC10:=Lib.hid (HC9.out.trans hC9 (fun i _ h=>.inl h))
      have HD9:=Lib.hid hD9
      clear hD9 hC9 HC9 HB9
      go_wp2_with fail
      go_ret2
      exact ⟨vl2,T2,O2++[p],true,HGO.out,rfl,told_step HT2.out HS2.out HC10.out,chg_step HC2.out HV2.out HC10.out,(fun h=>by cases h),fun _=>HD9.out⟩
     ·have hd:decide (lim < N7)=false:=decide_eq_false hbig
      go_wp2_with fail
      go_quiet (fail)
      have hB9:=(HB7.out.set_ 4 (.int .i64 (y+z))).drewN nq
      have e9:((scs (lim:Int) (.pointer (some ⟨db,0,none⟩)) (.slice A2 f2 ca2) E E 0).set 2 (.slice A6 N7 c6)).set 4 (.int .i64 (y+z))=scs lim (.pointer (some ⟨db,0,none⟩)) (.slice A6 N7 c6) E (p.p+p.w) 0:=by rw [HYZ.out];rfl
      rw [e9] at hB9
      have HB9:=Lib.hid hB9
      have HC9:=Lib.hid ((HC7.out.setCell (p:=⟨sb,4,none⟩) (.int .i64 (y+z)) (.inl rfl)).and_below (below_drewN (Below.refl _ _) nq))
      have HO9:=Lib.hid (Ucd.own_below (own_set HO7.out (own_ne HO7.out HB7.out (by decide)) (o:=4) (.int .i64 (y+z))) (below_drewN (Below.refl _ _) nq))
      have HGO:=Lib.hid (go_small HGS.out HG2.out (show N7=flen (O2++[p]) by rw [flen,HFR.out,HN7.out]) hbig)
      clear hB9 e9 hbig hd c0 c2 c4 f4 d1 d2
      go_wp2_with fail
      go_roundw
      case rel =>
       refine ⟨k+1,T2,O2++[p],.slice A6 N7 c6,E,by omega,by go_num,Lib.hid ⟨HGO.out,told_step HT2.out HS2.out HC9.out,?_,chg_step HC2.out HV2.out HC9.out,org_step HC2.out.size HV2.out HA8.out,pts_step HP2.out HS2.out HC9.out⟩⟩
       have hsm:=sm_step HS2.out HC9.out HQ1.out HN7.out HFR.out HB9.out HO9.out
       have e5:e+ww (ps.take (k+1))=E+p.w:=by rw [HTS.out,ww_append,ww_cons,ww_nil,HEE.out];omega
       rw [e5]
       exact hsm
      case measure=>simp [intOf];omega
   | false =>
    have hox:opn x=false:=by rw [HX.out];exact hop
    rw [hox] at HOP
    have HG2:=Lib.hid (HG0.out.2 hop)
    clear hox hop HG0
    refine HOP.out.mono ?_
    rintro e1 w2 ⟨rfl,hb1⟩
    have HB1:=Lib.hid (HBP.out.trans (hb1.mono HBP.out.size))
    have HS2:=Lib.hid (HS1.out.next HB1.out)
    have HT2:=Lib.hid (Ucd.own_below H1.out.told HB1.out)
    have HP2:=Lib.hid (Ucd.own_below H1.out.pts HB1.out)
    have HPB2:=Lib.hid (HPB.out.below hb1 HPLT.out)
    have HL2:=Lib.hid (HLR.out.next HB1.out)
    have HC2:=Lib.hid (H1.out.chg.and_below HB1.out)
    have HV2:=Lib.hid H1.out.org
    have HF2:=Lib.hid HO1.out
    clear hb1 HB1 HS1 HO1
    obtain ⟨A2,ca2,rfl,_⟩:=own_form HS2.out.own
    have HOW:=Lib.hid HS2.out.own
    have HD:=Lib.hid (decompose_any x)
    have h3:=full_three x
    have HFR:=Lib.hid (show fulls (runs (O1++[p]))=fulls (runs O1)++fullF x by rw [runs_append,fulls_append,HX.out];simp [runs,fulls])
    have hfl:(fulls (runs O1)).length+3≤1073741824:=HF2.out
    obtain ⟨F2,hF2⟩:∃F2,F2=fulls (runs O1):=⟨_,rfl⟩
    have c2:w2.cell? ⟨sb,2,none⟩=some (.slice A2 (fulls (runs O1)).length ca2):=HS2.out.blk.cell 2
    have c20:w2.cell? ⟨wr.heap.size,0,none⟩=some (.int .i32 x):=HPB2.out.cell 0
    rw [←hF2] at HOW HFR hfl c2
    obtain ⟨f2,hf2⟩:∃f2,f2=F2.length:=⟨_,rfl⟩
    rw [←hf2] at HOW hfl c2
    have hs2:=HS2.out
    have hv2:=HV2.out
    rw [←hF2,←hf2] at hs2 hv2
    clear HS2 HV2
    have HS2:=Lib.hid hs2
    have HV2:=Lib.hid hv2
    have HF2L:=Lib.hid hf2
    clear hs2 hv2
    obtain ⟨D,hDD⟩:∃D,D=fullF x:=⟨_,rfl⟩
    rw [←hDD] at HFR h3
    have HDD:=Lib.hid hDD
    have hsbp:sb≠wr.heap.size:=blk_apart HS2.out.blk HPB2.out (by decide)
    have HSBP:=Lib.hid hsbp
    clear hF2 hf2 hDD hsbp
    go_wp2_with fail
    go_region_law (first
     | (
      refine step_append_rd rfl (.tmp 25) (.tmp 28) _ rfl base 21 i0 _ 1 4 Tryd.underlying35 hi hz0 hz1 hz2 rfl (by decide) (.slice A2 f2 ca2) f2 (nums F2) rfl HOW3.out _ A3 D.length c3 (nums D) rfl (by rw [nums_len,Nat.mul_one]) HR3.out (nums_one D) (by unfold maxLen;omega) (by omega) HSZ3.out ?_
      intro v6 w6 hown6 hgr6 hat6
      obtain ⟨A6,c6,rfl,_,_,_⟩:=own_form hown6
      have HO6:=Lib.hid hown6
      have HG6:=Lib.hid hgr6
      have HA6:=Lib.hid hat6
      have HB6:=Lib.hid (HB3.out.grown hgr6 (fun h=>HNE.out h.symm))
      have c2:=HB6.out.cell 2
      have f26:=HB6.out.frozen 2
      have HPB6:=Lib.hid (HPB3.out.grown hgr6 (fun h=>HNP.out h.symm))
      have HA7:=Lib.hid (show ∀g,(Value.slice A6 (f2+D.length) c6).ownBlock=some g→w2.heap.size≤g∨(Value.slice A2 f2 ca2).ownBlock=some g from fun g hg=>by
       rcases hat6 with h | h
       ·exact .inr (h ▸ hg)
       ·left;rw [h] at hg;injection hg with hg;have:=HB23.out.size;simp at this;omega)
      have HC6:=Lib.hid ((((Chg.refl w2 (Two sb (.slice A2 f2 ca2))).and_below (Below.refl _ _).drew).and_below HB23.out).grown hgr6 (fun i _ h=>.inr h))
      simp only [scs,List.getElem?_cons_succ,List.getElem?_cons_zero] at c2
      clear hown6 hgr6 hat6)
     | (
      go_simp
      go_at_call 54
      refine (HD.out w2.drew HL2.out.drew).mono ?_
      rintro e3 w3 ⟨v3,rfl,ho3,hb3⟩
      rw [←HDD.out] at ho3
      have HB23:=Lib.hid hb3
      have HS3:=Lib.hid (HS2.out.next ((Below.refl _ _).drew.trans (hb3.mono (Nat.le_refl _))))
      have HB3:=Lib.hid HS3.out.blk
      have hne3:=HS3.out.ne
      have HNE:=Lib.hid hne3
      have HPB3:=Lib.hid (Blk.below (w:=w2.drew) HPB2.out hb3 HPB2.out.lt)
      have HOW3:=Lib.hid (Ucd.own_below HOW.out.drew hb3)
      obtain ⟨A3,c3,rfl,_,_,hr3⟩:=own_form ho3
      have HR3:=Lib.hid hr3
      have HNP:=Lib.hid (own_ne HOW3.out HPB3.out (by decide))
      have HSZ3:=Lib.hid (show base≤w3.heap.size from Nat.le_trans (Nat.le_trans hb HC2.out.size) hb3.size)
      have c2:w3.cell? ⟨sb,2,none⟩=some (.slice A2 f2 ca2):=by have:=HS3.out.blk.cell 2;simp only [scs,List.getElem?_cons_succ,List.getElem?_cons_zero] at this;exact this
      have c20:w3.cell? ⟨wr.heap.size,0,none⟩=some (.int .i32 x):=(Blk.below (w:=w2.drew) HPB2.out hb3 HPB2.out.lt).cell 0
      clear ho3 hr3 hb3 hne3))
    all_goals
     have hB7:=HB6.out.set_ 2 (.slice A6 (f2+D.length) c6)
     have hP7:Blk (w6.setCell ⟨sb,2,none⟩ (.slice A6 (f2+D.length) c6)) wr.heap.size 51 [.int .i32 x,.int .i64 y,.int .i64 z]:=HPB6.out.far (fun h=>HSBP.out h.symm) _
     have hO7:=own_set HO6.out (own_ne HO6.out HB6.out (by decide)) (o:=2) (.slice A6 (f2+D.length) c6)
     have hC7:Chg w2 (w6.setCell ⟨sb,2,none⟩ (.slice A6 (f2+D.length) c6)) (Two sb (.slice A2 f2 ca2)):=HC6.out.setCell (p:=⟨sb,2,none⟩) _ (.inl rfl)
     have HN7:=Lib.hid (show f2+D.length=(F2++D).length by rw [List.length_append,HF2L.out])
     have hN7b:f2+D.length≤1073741824:=by omega
     obtain ⟨u7,hu7⟩:∃u7,u7=w6.setCell ⟨sb,2,none⟩ (.slice A6 (f2+D.length) c6):=⟨_,rfl⟩
     rw [←hu7] at hB7 hP7 hO7 hC7 ⊢
     rw [←nums_append] at hO7
     have HA8:=HA7
     clear c2 f26 hu7 HB6 HPB6 HO6 HC6 HA7 HA6 HG6 HOW3 HS3 HB3 HNE HR3 HB23 HSZ3 HPB3 HNP c20
     generalize f2+D.length=N7 at *
     have c0:=hB7.cell 0
     have c2:=hB7.cell 2
     have c4:=hB7.cell 4
     have f4:=hB7.frozen 4
     have d1:=hP7.cell 1
     have d2:=hP7.cell 2
     simp only [scs,List.getElem?_cons_succ,List.getElem?_cons_zero,List.set_cons_zero,List.set_cons_succ] at c0 c2 c4 d1 d2
     have HB7:=Lib.hid hB7
     have HO7:=Lib.hid hO7
     have HC7:=Lib.hid hC7
     clear hB7 hO7 hC7 hP7
     by_cases hbig:lim < N7
     ·have hd:decide (lim < N7)=true:=decide_eq_true hbig
      go_wp2_with fail
      go_quiet (fail)
      have hB9:=(HB7.out.set_ 4 (.int .i64 (y+z))).drewN nq
      have e9:((scs (lim:Int) (.pointer (some ⟨db,0,none⟩)) (.slice A2 f2 ca2) a1 E 0).set 2 (.slice A6 N7 c6)).set 4 (.int .i64 (y+z))=scs lim (.pointer (some ⟨db,0,none⟩)) (.slice A6 N7 c6) a1 (p.p+p.w) 0:=by rw [HYZ.out];rfl
      rw [e9] at hB9
      have HB9:=Lib.hid hB9
      have HC9:=Lib.hid ((HC7.out.setCell (p:=⟨sb,4,none⟩) (.int .i64 (y+z)) (.inl rfl)).and_below (below_drewN (Below.refl _ _) nq))
      have HGO:=Lib.hid (go_big HGS.out HG2.out (show N7=flen (O1++[p]) by rw [flen,HFR.out,HN7.out]) hbig)
      clear hB9 e9 hbig hd c0 c2 c4 f4 d1 d2
      go_wp2_with fail
      refine (stop_any sb lim 0 6 _ _ a1 (p.p+p.w) _ HB9.out).mono ?_
      rintro e9 w9 ⟨rfl,hD9,hC9⟩
      have HC10:=Lib.hid (HC9.out.trans hC9 (fun i _ h=>.inl h))
      have HD9:=Lib.hid hD9
      clear hD9 hC9 HC9 HB9
      go_wp2_with fail
      go_ret2
      exact ⟨u6,T,O1++[p],true,HGO.out,rfl,told_step HT2.out HS2.out HC10.out,chg_step HC2.out HV2.out HC10.out,(fun h=>by cases h),fun _=>HD9.out⟩
     ·have hd:decide (lim < N7)=false:=decide_eq_false hbig
      go_wp2_with fail
      go_quiet (fail)
      have hB9:=(HB7.out.set_ 4 (.int .i64 (y+z))).drewN nq
      have e9:((scs (lim:Int) (.pointer (some ⟨db,0,none⟩)) (.slice A2 f2 ca2) a1 E 0).set 2 (.slice A6 N7 c6)).set 4 (.int .i64 (y+z))=scs lim (.pointer (some ⟨db,0,none⟩)) (.slice A6 N7 c6) a1 (p.p+p.w) 0:=by rw [HYZ.out];rfl
      rw [e9] at hB9
      have HB9:=Lib.hid hB9
      have HC9:=Lib.hid ((HC7.out.setCell (p:=⟨sb,4,none⟩) (.int .i64 (y+z)) (.inl rfl)).and_below (below_drewN (Below.refl _ _) nq))
      have HO9:=Lib.hid (Ucd.own_below (own_set HO7.out (own_ne HO7.out HB7.out (by decide)) (o:=4) (.int .i64 (y+z))) (below_drewN (Below.refl _ _) nq))
      have HGO:=Lib.hid (go_small HGS.out HG2.out (show N7=flen (O1++[p]) by rw [flen,HFR.out,HN7.out]) hbig)
      clear hB9 e9 hbig hd c0 c2 c4 f4 d1 d2
      go_wp2_with fail
      go_roundw
      case rel =>
       refine ⟨k+1,T,O1++[p],.slice A6 N7 c6,a1,by omega,by go_num,Lib.hid ⟨HGO.out,told_step HT2.out HS2.out HC9.out,?_,chg_step HC2.out HV2.out HC9.out,org_step HC2.out.size HV2.out HA8.out,pts_step HP2.out HS2.out HC9.out⟩⟩
       have hsm:=sm_step HS2.out HC9.out HQ1.out HN7.out HFR.out HB9.out HO9.out
       have e5:e+ww (ps.take (k+1))=E+p.w:=by rw [HTS.out,ww_append,ww_cons,ww_nil,HEE.out];omega
       rw [e5]
       exact hsm
      case measure=>simp [intOf];omega
  ·obtain rfl:k=m:=by omega
   have HXT:=Lib.hid (show ps.take k=ps by rw [←HM.out];exact List.take_length)
   go_wp2_with fail
   go_ret2
   have h:=H1.out
   have hgo:=h.go
   have hsm:=h.sm
   rw [HXT.out] at hgo hsm
   exact ⟨_,T,O1,false,hgo,rfl,h.told,h.chg,fun _=>⟨vo1,a1,hsm,h.org⟩,(fun h=>by cases h)⟩
end Go.Proofs.YtdngaddggcmjgaaDoor.Seg
namespace Go.Proofs.YtdngaddggcmjgaaDoor.Seg
open Go.Shelf Go.RowKit Go.Sort
open Utf hiding infoI32 rd_new own_form rdec_any below_drewN new_any write_any close_any
open Ucd hiding grow same Told
open Norm hiding new_any write_any close_any
set_option maxRecDepth 100000
def Shuts (w:World) (g:Nat) (k0 k1 k2:UInt8) (n q:Nat) (e:Ending) (w':World):Prop :=
 ∃v,e=.returned v∧w'.ownsRow w.heap.size 51 3 v (last n q).length (pts (last n q))∧Dc w' g k0 k1 k2 0 q true∧w.grownBy w' (some g)
set_option maxHeartbeats 1000000 in
theorem shut_zero (g q:Nat) (k0 k1 k2:UInt8) (b:Bool) (w:World) (h:Dc w g k0 k1 k2 0 q b):Calls Tryd.prog 71 #[.pointer (some ⟨g,0,none⟩)] w (Shuts w g k0 k1 k2 0 q):=by
 have h3:w.cell? ⟨g,3,none⟩=some (.int .i64 0):=h.c3
 have h5:=h.c5
 have f5:=h.fr 5
 have H:=Lib.hid h
 clear h
 go_enter Tryd.func71,Tryd.ntmps71
 go_wp2
 go_ret
 exact ⟨.slice none 0 0,rfl,World.ownsRow_nil _ _ _ _,(H.out:Blk _ _ _ _).set_ 5 (.bool true),⟨rfl,rfl,rfl,by simp,fun k _ hk=>heap_setCell_other _ _ _ _ (fun e=>hk (by rw [e]))⟩⟩
set_option maxHeartbeats 1000000 in
theorem shut_more (g n q:Nat) (k0 k1 k2:UInt8) (b:Bool) (w:World) (h:Dc w g k0 k1 k2 n q b) (hn:n≠0):Calls Tryd.prog 71 #[.pointer (some ⟨g,0,none⟩)] w (Shuts w g k0 k1 k2 n q):=by
 have h3:=h.c3
 have h4:=h.c4
 have h5:=h.c5
 have f3:=h.fr 3
 have f4:=h.fr 4
 have f5:=h.fr 5
 have hne:((n:Int) == 0)=false:=by simp;omega
 have H:=Lib.hid h
 have HN:=Lib.hid hn
 have hlt:g < w.heap.size:=Blk.lt h
 clear h hn
 go_enter Tryd.func71,Tryd.ntmps71
 go_wp2
 go_region
 all_goals go_wp2
 go_ret
 have el:last n q=[⟨65533,q,n⟩]:=by unfold last;rw [if_neg HN.out]
 have hB:Blk ((w.setCell ⟨g,5,none⟩ (.bool true)).setCell ⟨g,3,none⟩ (.int .i64 0)) g 115 (dcs k0 k1 k2 0 q true) :=
  ((H.out:Blk _ _ _ _).set_ 5 (.bool true)).set_ 3 (.int .i64 0)
 refine ⟨.slice (some ⟨w.heap.size+1,0,none⟩) 1 1,rfl,?_,(hB.alloc _).alloc _,grown_drew (grown_alloc (grown_alloc (grown_set (grown_set (World.grownBy.refl w _) 5 _) 3 _) _) _)⟩
 rw [el]
 refine ⟨rfl,.inr ⟨w.heap.size+1,1,#[.int .i32 65533,.int .i64 q,.int .i64 n],rfl,by omega,?_,Nat.le_refl _,by simp [maxLen],rfl,rfl⟩⟩
 have h1:(((w.setCell ⟨g,5,none⟩ (.bool true)).setCell ⟨g,3,none⟩ (.int .i64 0)).alloc (.cells #[.int .i32 65533,.int .i64 q,.int .i64 n] 51)).heap.size=w.heap.size+1:=by simp
 have:=heap_alloc_new (((w.setCell ⟨g,5,none⟩ (.bool true)).setCell ⟨g,3,none⟩ (.int .i64 0)).alloc (.cells #[.int .i32 65533,.int .i64 q,.int .i64 n] 51)) (.cells #[.int .i32 65533,.int .i64 q,.int .i64 n] 51)
 rw [h1] at this
 exact this
theorem shut_dec (g n q:Nat) (k0 k1 k2:UInt8) (b:Bool) (w:World) (h:Dc w g k0 k1 k2 n q b):Calls Tryd.prog 71 #[.pointer (some ⟨g,0,none⟩)] w (Shuts w g k0 k1 k2 n q):=by
 by_cases hn:n=0
 ·subst hn;exact shut_zero g q k0 k1 k2 b w h
 ·exact shut_more g n q k0 k1 k2 b w h hn
theorem Sm.turn {w w1:World} {base sb db a e:Nat} {lim:Int} {dc dc':List Value} {vo:Value} {O:List Pt} (h:Sm w base sb db lim dc vo O a e) (hg:w.grownBy w1 (some db)) (hD:Blk w1 db 115 dc'):Sm w1 base sb db lim dc' vo O a e :=
 ⟨h.blk.grown hg (fun e=>h.apart (by injection e)),hD,h.own.kept hg (.inr (fun e=>h.ned e)),h.le,h.led,h.reach⟩
def Writes (w:World) (base sb db lim:Nat) (vo:Value) (O:List Pt) (q:Nat) (L:List UInt8) (e:Ending) (w':World):Prop :=
 ∃v T O' b,go opP flen lim [] O (dec true q L)=(T,O',b)∧e=.returned (.tuple #[v,.int .i64 (if b then 6 else 0)])∧w'.ownsRow w.heap.size 72 3 v (T.map sgOf).length (sgs (T.map sgOf))∧Chg w w' (Hers sb db vo) ∧
  (b=false→∃vo' a' k0 k1 k2,Sm w' base sb db lim (dcs k0 k1 k2 (L.length - eat L) (q+eat L) false) vo' O' a' (q+eat L)∧kept k0 k1 k2 (L.length - eat L)=L.drop (eat L)∧∀g,vo'.ownBlock=some g→w.heap.size≤g∨vo.ownBlock=some g) ∧
  (b=true→Done w' sb 6)
set_option maxHeartbeats 4000000 in
theorem write_any (base sb db lim a m c n q:Nat) (k0 k1 k2:UInt8) (vo:Value) (O:List Pt) (A:Option Addr) (l:List UInt8) (w:World) (hL:Laid w) (hS:Sm w base sb db lim (dcs k0 k1 k2 n q false) vo O a q)
  (hn3:n≤3) (hr:Rd w w.heap.size A (bys l)) (hm:l.length=m) (hc:m≤c) (hcm:c≤9223372036854775807) (hb:base≤w.heap.size) (hg:5 < base) (hsm:flen O+3*(n+m)≤1073741824) (hq:q+n+m≤1073741824) :
  Calls Tryd.prog 59 #[.pointer (some ⟨sb,0,none⟩),.slice A m c] w (Writes w base sb db lim vo O q (kept k0 k1 k2 n++l)):=by
 have HW:=Lib.hid (Utf.write_any db n q m c k0 k1 k2 A l w hS.dec hn3 hr hm hc hcm (by omega) (by omega))
 have hkl:(kept k0 k1 k2 n).length=n:=by unfold kept;rw [List.length_take];show min n 3=n;omega
 have hLl:(kept k0 k1 k2 n++l).length=n+m:=by rw [List.length_append,hkl,hm]
 generalize kept k0 k1 k2 n++l=L at HW hLl ⊢
 have hdl:=dec_len_le true L q
 have hww:=ww_eat L q
 have htl:=dec_tile true L q
 have hel:=eat_le L
 rw [hLl] at hdl hel
 have c1:=hS.blk.cell 1
 have c5:=hS.blk.cell 5
 simp only [scs,List.getElem?_cons_succ,List.getElem?_cons_zero] at c1 c5
 have HS:=Lib.hid hS
 have HL:=Lib.hid hL
 have HLL:=Lib.hid hLl
 have HDL:=Lib.hid hdl;have HWW:=Lib.hid hww;have HTL:=Lib.hid htl;have HEL:=Lib.hid hel
 obtain ⟨dl,hdl2⟩:∃dl,dl=(dec true q L).length:=⟨_,rfl⟩
 have HDL2:=Lib.hid hdl2
 clear hS hL hr hm hc hkl hLl hdl hww htl hel hdl2
 go_enter Tryd.func59,Tryd.ntmps59
 go_wp2_with fail
 refine HW.out.mono ?_
 rintro e1 w1 ⟨v1,j0,j1,j2,rfl,hown,hD,hk,hgr⟩
 obtain ⟨A1,ca1,rfl,_⟩:=Utf.own_form hown
 rw [←HDL2.out] at hown ⊢
 have HS1:=Lib.hid (HS.out.turn hgr hD)
 have HG:=Lib.hid hgr
 have HK:=Lib.hid hk
 have HO:=Lib.hid hown
 have HC1:=Lib.hid ((Chg.refl w (Hers sb db vo)).grown hgr (fun i _ h=>.inr (.inl (by injection h with h;exact h.symm))))
 have HL1:=Lib.hid (HL.out.below (HC1.out.below hb (fun i hi=>HS.out.hers hi)) hg)
 have hb1:base≤w1.heap.size:=Nat.le_trans hb hgr.size
 clear hown hD hk hgr c1 c5 HW
 go_wp2_with fail
 refine (take_any base sb db lim a q dl ca1 w.heap.size (dcs j0 j1 j2 (L.length - eat L) (q+eat L) false) vo O (dec true q L) A1 w1 HL1.out HS1.out HO.out HDL2.out.symm HTL.out hb1 hg (by have:=HDL.out;have:=HDL2.out;omega) (by rw [HWW.out];have:=HEL.out;omega)).mono ?_
 rintro e2 w2 ⟨v,T,O',b,hgo,rfl,ho2,hc2,hf,ht⟩
 have HGO:=Lib.hid hgo
 have HO2:=Lib.hid (Norm.own_mono ho2 HG.out.size)
 have HC2:=Lib.hid (HC1.out.trans hc2 (fun _ _ h=>h))
 have HF:=Lib.hid hf
 have HT:=Lib.hid ht
 clear hgo ho2 hc2 hf ht
 cases b with
 | true =>
  go_wp2_with fail
  go_ret2
  exact ⟨v,T,O',true,HGO.out,rfl,HO2.out,HC2.out,(fun h=>by cases h),fun h=>HT.out (by first | trivial | exact h)⟩
 | false =>
  go_wp2_with fail
  go_ret2
  refine ⟨v,T,O',false,HGO.out,rfl,HO2.out,HC2.out,fun h=>?_,(fun h=>by cases h)⟩
  obtain ⟨vo',a',hs,ho⟩:=HF.out (by first | trivial | exact h)
  rw [HWW.out] at hs
  refine ⟨vo',a',j0,j1,j2,hs,HK.out,fun g hg=>?_⟩
  rcases ho g hg with h | h
  ·left;have:=HG.out.size;omega
  ·exact .inr h
def Over (w:World) (er:Int) (e:Ending) (w':World):Prop:=e=.returned (.tuple #[.slice none 0 0,.int .i64 er])∧∃n,w'=w.drewN n
theorem close_done (sb:Nat) (er:Int) (w:World) (h:Done w sb er) (he:er≠0):Calls Tryd.prog 60 #[.pointer (some ⟨sb,0,none⟩)] w (Over w er):=by
 obtain ⟨lim,a,e,h⟩:=h
 have c5:=h.cell 5
 simp only [scs,List.getElem?_cons_succ,List.getElem?_cons_zero] at c5
 have hne:(er != 0)=true:=by simpa using he
 clear h he
 go_enter Tryd.func60,Tryd.ntmps60
 go_wp2_with fail
 go_quiet (fail)
 go_wp2_with fail
 go_ret2
 exact ⟨rfl,_,rfl⟩
def Closes (w:World) (sb db lim:Nat) (vo:Value) (O:List Pt) (ps:List Pt) (e:Ending) (w':World):Prop :=
 ∃v T O' b,go opP flen lim [] O ps=(T,O',b)∧e=.returned (.tuple #[v,.int .i64 (if b then 6 else 0)])∧Chg w w' (Hers sb db vo) ∧
  (b=false→w'.ownsRow w.heap.size 72 3 v ((shut (T,O')).map sgOf).length (sgs ((shut (T,O')).map sgOf))∧Done w' sb 8) ∧
  (b=true→w'.ownsRow w.heap.size 72 3 v (T.map sgOf).length (sgs (T.map sgOf))∧Done w' sb 6)
theorem shut_two (T:List (List Pt)) (O:List Pt):shut (T,O)=T++shut ([],O):=by have:=shut_pre T (([],O):List (List Pt) × List Pt);simpa using this
theorem last_tile (n q:Nat):Tile q (last n q)∧ww (last n q)=n:=by
 unfold last
 split
 ·rename_i h;exact ⟨trivial,by rw [ww_nil,h]⟩
 ·rename_i h;exact ⟨⟨rfl,by show 1≤n;omega,trivial⟩,by simp [ww]⟩
set_option maxHeartbeats 4000000 in
theorem close_any (base sb db lim a n q:Nat) (k0 k1 k2:UInt8) (vo:Value) (O:List Pt) (w:World) (hL:Laid w) (hS:Sm w base sb db lim (dcs k0 k1 k2 n q false) vo O a q)
  (hb:base≤w.heap.size) (hg:5 < base) (hsm:flen O+3≤1073741824) (hq:q+n≤1073741824) :
  Calls Tryd.prog 60 #[.pointer (some ⟨sb,0,none⟩)] w (Closes w sb db lim vo O (last n q)):=by
 have HW:=Lib.hid (shut_dec db n q k0 k1 k2 false w hS.dec)
 have hll:=last_len n q
 obtain ⟨htl,hww⟩:=last_tile n q
 have c1:=hS.blk.cell 1
 have c5:=hS.blk.cell 5
 simp only [scs,List.getElem?_cons_succ,List.getElem?_cons_zero] at c1 c5
 have HS:=Lib.hid hS
 have HL:=Lib.hid hL
 have HSH:=Lib.hid shut_two
 obtain ⟨ps,hps⟩:∃ps,ps=last n q:=⟨_,rfl⟩
 rw [←hps] at hll htl hww ⊢
 have HPS:=Lib.hid hps
 have HTL:=Lib.hid htl;have HWW:=Lib.hid hww
 obtain ⟨dl,hdl⟩:∃dl,dl=ps.length:=⟨_,rfl⟩
 rw [←hdl] at hll
 have HDL:=Lib.hid hdl
 clear hS hL htl hww hdl hps
 go_enter Tryd.func60,Tryd.ntmps60
 go_wp2_with fail
 refine HW.out.mono ?_
 rintro e1 w1 ⟨v1,rfl,hown,hD,hgr⟩
 rw [←HPS.out] at hown
 obtain ⟨A1,ca1,rfl,_⟩:=Utf.own_form hown
 rw [←HDL.out] at hown ⊢
 have HS1:=Lib.hid (HS.out.turn hgr hD)
 have HG:=Lib.hid hgr
 have HO:=Lib.hid hown
 have HC1:=Lib.hid ((Chg.refl w (Hers sb db vo)).grown hgr (fun i _ h=>.inr (.inl (by injection h with h;exact h.symm))))
 have HL1:=Lib.hid (HL.out.below (HC1.out.below hb (fun i hi=>HS.out.hers hi)) hg)
 have hb1:base≤w1.heap.size:=Nat.le_trans hb hgr.size
 clear hown hD hgr c1 c5 HW
 go_wp2_with fail
 refine (take_any base sb db lim a q dl ca1 w.heap.size (dcs k0 k1 k2 0 q true) vo O ps A1 w1 HL1.out HS1.out HO.out HDL.out.symm HTL.out hb1 hg (by omega) (by rw [HWW.out];omega)).mono ?_
 rintro e2 w2 ⟨v,T,O',b,hgo,rfl,ho2,hc2,hf,ht⟩
 have HGO:=Lib.hid hgo
 have HO2:=Lib.hid ho2
 have HC2:=Lib.hid (HC1.out.trans hc2 (fun _ _ h=>h))
 have HF:=Lib.hid hf
 have HT:=Lib.hid ht
 have hs12:=hc2.size
 clear hgo hc2 hf ht
 cases b with
 | true =>
  clear ho2 hs12
  go_wp2_with fail
  go_ret2
  exact ⟨v,T,O',true,HGO.out,rfl,HC2.out,(fun h=>by cases h),fun _=>⟨Norm.own_mono HO2.out HG.out.size,HT.out (by first | trivial | rfl)⟩⟩
 | false =>
  obtain ⟨vo',a',hs,ho⟩:=HF.out (by first | trivial | rfl)
  obtain ⟨TS,hTS⟩:∃TS,TS=T.map sgOf:=⟨_,rfl⟩
  rw [←hTS] at ho2
  have HTS:=Lib.hid hTS
  obtain ⟨A2,c2,rfl,_⟩:=Utf.own_form ho2
  have hb2:=HC2.out.below hb (fun i hi=>HS.out.hers hi)
  have hL2:=HL.out.below hb2 hg
  have hof:=go_open HGO.out
  have hgl:=go_len opP flen lim ps [] O
  rw [HGO.out] at hgl
  have hTm:TS.length≤1073741824:=by rw [hTS,List.length_map];have:=HDL.out;simp at hgl;omega
  have HTE:=Lib.hid (tell_any w1.heap.size base sb db lim (dcs k0 k1 k2 0 q true) vo' (.slice A2 TS.length c2) TS O' a' (q+ww ps) w2 hL2 hs ho2 hs12 (by have:=HDL.out;omega) hTm)
  have HS12:=Lib.hid hs12
  have HS2:=Lib.hid hs
  have HORG:=Lib.hid ho
  have HTO:=Lib.hid ho2
  clear hTS hs ho ho2 hb2 hL2 hof hgl hTm HO2 HT hs12
  go_wp2_with fail
  refine HTE.out.mono ?_
  rintro e3 w3 ⟨v',vo'',rfl,ho3,hS3,hc3,hv3,ha3⟩
  rw [HTS.out,←List.map_append,←HSH.out] at ho3
  have HO3:=Lib.hid ho3
  have HS3:=Lib.hid hS3
  have HC3:=Lib.hid (HC2.out.trans hc3 (fun i hi h=>by
   rcases h with h | h
   ·exact .inl h
   ·have:=(HTO.out.lt i h).1;have:=HG.out.size;omega))
  clear ho3 hS3 hc3 hv3 ha3 HTE
  go_wp2_with fail
  refine (stop_any sb lim 0 8 _ _ _ _ w3 HS3.out.blk).mono ?_
  rintro e4 w4 ⟨rfl,hD4,hC4⟩
  have HD4:=Lib.hid hD4
  have HO4:=Lib.hid (Norm.own_mono (Norm.own_keep HO3.out hC4 (fun g hg h=>own_ne HO3.out HS3.out.blk (by decide) (h ▸ hg))) HG.out.size)
  have HC4:=Lib.hid (HC3.out.trans hC4 (fun i _ h=>.inl h))
  clear hD4 hC4
  go_wp2_with fail
  go_ret2
  exact ⟨v',T,O',false,HGO.out,rfl,HC4.out,(fun _=>⟨HO4.out,HD4.out⟩),(fun h=>by cases h)⟩
end Go.Proofs.YtdngaddggcmjgaaDoor.Seg
namespace Go.Proofs.YtdngaddggcmjgaaDoor.Seg
open Go.Shelf Go.RowKit Go.Sort
open Utf hiding infoI32 rd_new own_form rdec_any below_drewN new_any write_any close_any
open Ucd hiding grow same Told
open Norm hiding new_any write_any close_any
set_option maxRecDepth 100000
def okS (lim:Nat) (l:List UInt8):List (List Pt):=okG flen lim (grp (dec false 0 l))
def badS (lim:Nat) (l:List UInt8):Bool:=badG flen lim (grp (dec false 0 l))
def Live (w:World) (base sb db lim:Nat) (vo:Value) (X:List UInt8) (T:List (List Pt)):Prop :=
 ∃O a k0 k1 k2,go opP flen lim [] [] (dec true 0 X)=(T,O,false)∧Sm w base sb db lim (dcs k0 k1 k2 (X.length - eat X) (eat X) false) vo O a (eat X)∧kept k0 k1 k2 (X.length - eat X)=X.drop (eat X)
theorem live_new {w:World} {base sb db lim:Nat} (h:Sm w base sb db lim (dcs 0 0 0 0 0 false) (.slice none 0 0) [] 0 0):Live w base sb db lim (.slice none 0 0) [] []:=⟨[],0,0,0,0,rfl,h,rfl⟩
section
variable {w w':World} {base sb db lim:Nat} {vo:Value} {X:List UInt8} {T:List (List Pt)}
theorem Live.hers (h:Live w base sb db lim vo X T) {k:Nat} (hk:k < base):¬Hers sb db vo k:=by obtain ⟨O,a,k0,k1,k2,_,hs,_⟩:=h;exact hs.hers hk
theorem Live.apart (h:Live w base sb db lim vo X T) {bs:Nat} {e:TypeId} {size n:Nat} {v:Value} {xs:List Value} (ho:w.ownsRow bs e size v n xs) (h1:e≠107) (h2:e≠115) (h3:e≠21) :
  ∀k,v.ownBlock=some k→¬Hers sb db vo k:=by
 obtain ⟨O,a,k0,k1,k2,_,hs,_⟩:=h
 intro k hk hi
 rcases hi with rfl | rfl | hi
 ·exact own_ne ho hs.blk h1 hk
 ·exact own_ne ho hs.dec h2 hk
 ·exact own_apart ho hs.own h3 k hk hi
end
theorem go_on {lim:Nat} {a b:List Pt} {T Tn:List (List Pt)} {O O':List Pt} {r:Bool} (h:go opP flen lim [] [] a=(T,O,false)) (h':go opP flen lim [] O b=(Tn,O',r)):go opP flen lim [] [] (a++b)=(T++Tn,O',r):=by
 rw [go_append,h]
 simp only [Bool.false_eq_true,if_false]
 have:=go_pre opP flen lim T b [] O
 rw [List.append_nil,h'] at this
 exact this
def LiveWrote (w:World) (base sb db lim:Nat) (vo:Value) (X l:List UInt8) (T:List (List Pt)) (e:Ending) (w':World):Prop :=
 ∃v Tn b,e=.returned (.tuple #[v,.int .i64 (if b then 6 else 0)])∧w'.ownsRow w.heap.size 72 3 v (Tn.map sgOf).length (sgs (Tn.map sgOf))∧Chg w w' (Hers sb db vo) ∧
  (b=false→∃vo',Live w' base sb db lim vo' (X++l) (T++Tn)∧∀g,vo'.ownBlock=some g→w.heap.size≤g∨vo.ownBlock=some g) ∧
  (b=true→Done w' sb 6∧∀c,okG flen lim (grp (dec true 0 (X++l)++c))=T++Tn∧badG flen lim (grp (dec true 0 (X++l)++c))=true)
theorem live_write (base sb db lim m c:Nat) (vo:Value) (X l:List UInt8) (T:List (List Pt)) (A:Option Addr) (w:World) (hL:Laid w) (h:Live w base sb db lim vo X T)
  (hr:Rd w w.heap.size A (bys l)) (hm:l.length=m) (hc:m≤c) (hcm:c≤9223372036854775807) (hb:base≤w.heap.size) (hg:5 < base) (hsm:X.length+m≤268435456) :
  Calls Tryd.prog 59 #[.pointer (some ⟨sb,0,none⟩),.slice A m c] w (LiveWrote w base sb db lim vo X l T):=by
 obtain ⟨O,a,k0,k1,k2,g1,hs,g2⟩:=h
 have h3:=rest_short X
 have hel:=eat_le X
 have hfo:=go_open g1
 have hdl:=dec_len_le true X 0
 have hf0:flen []=0:=rfl
 refine (write_any base sb db lim a m c (X.length - eat X) (eat X) k0 k1 k2 vo O A l w hL hs h3 hr hm hc hcm hb hg (by omega) (by omega)).mono ?_
 rw [g2]
 rintro e w' ⟨v,Tn,O',b,hgo,rfl,ho,hch,hf,ht⟩
 have hda:=dec_append true X l 0
 rw [Nat.zero_add] at hda
 have hgo2:go opP flen lim [] [] (dec true 0 (X++l))=(T++Tn,O',b):=by rw [hda];exact go_on g1 hgo
 have hea:=eat_append X l
 have hle:=eat_le (X.drop (eat X)++l)
 rw [List.length_append,List.length_drop] at hle
 have hn:(X.drop (eat X)++l).length - eat (X.drop (eat X)++l)=(X++l).length - eat (X++l):=by
  rw [hea,List.length_append,List.length_append,List.length_drop];omega
 have hdr:(X.drop (eat X)++l).drop (eat (X.drop (eat X)++l))=(X++l).drop (eat (X++l)):=by
  rw [hea,←List.drop_drop,List.drop_append_of_le_length hel]
 refine ⟨v,Tn,b,rfl,ho,hch,fun hb=>?_,fun hb=>⟨ht hb,?_⟩⟩
 ·subst hb
  obtain ⟨vo',a',j0,j1,j2,hs',hk,hor⟩:=hf rfl
  rw [hn,←hea] at hs'
  rw [hn,hdr] at hk
  exact ⟨vo',⟨O',a',j0,j1,j2,hgo2,hs',hk⟩,hor⟩
 ·subst hb
  exact (go_all opP flen lim flen_grows hgo2).2 rfl
def LiveClosed (w:World) (sb db lim:Nat) (vo:Value) (X:List UInt8) (T:List (List Pt)) (e:Ending) (w':World):Prop :=
 ∃v Tn,e=.returned (.tuple #[v,.int .i64 (if badS lim X then 6 else 0)])∧w'.ownsRow w.heap.size 72 3 v (Tn.map sgOf).length (sgs (Tn.map sgOf))∧Chg w w' (Hers sb db vo)∧T++Tn=okS lim X∧Done w' sb (if badS lim X then 6 else 8)
theorem live_close (base sb db lim:Nat) (vo:Value) (X:List UInt8) (T:List (List Pt)) (w:World) (hL:Laid w) (h:Live w base sb db lim vo X T) (hb:base≤w.heap.size) (hg:5 < base) (hsm:X.length≤268435456) :
  Calls Tryd.prog 60 #[.pointer (some ⟨sb,0,none⟩)] w (LiveClosed w sb db lim vo X T):=by
 obtain ⟨O,a,k0,k1,k2,g1,hs,g2⟩:=h
 have h3:=rest_short X
 have hel:=eat_le X
 have hfo:=go_open g1
 have hdl:=dec_len_le true X 0
 have hf0:flen []=0:=rfl
 refine (close_any base sb db lim a (X.length - eat X) (eat X) k0 k1 k2 vo O w hL hs hb hg (by omega) (by omega)).mono ?_
 rintro e w' ⟨v,Tn,O',b,hgo,rfl,hch,hf,ht⟩
 have hda:=dec_close 0 X
 rw [Nat.zero_add] at hda
 have hgo2:go opP flen lim [] [] (dec false 0 X)=(T++Tn,O',b):=by rw [hda];exact go_on g1 hgo
 have hall:=go_all opP flen lim flen_grows hgo2
 cases b with
 | false =>
  obtain ⟨e1,_,e3⟩:=hall.1 rfl
  obtain ⟨hok,hbad⟩:=okG_all flen lim (gs:=grp (dec false 0 X)) e3
  have hbs:badS lim X=false:=hbad
  obtain ⟨ho,hd⟩:=hf rfl
  refine ⟨v,shut (Tn,O'),by rw [hbs],ho,hch,?_,by rw [hbs];exact hd⟩
  show _=okG flen lim (grp (dec false 0 X))
  rw [hok]
  have hp:=shut_pre T (Tn,O')
  simp only at hp
  rw [←hp]
  exact e1
 | true =>
  obtain ⟨e1,e2⟩:=hall.2 rfl []
  rw [List.append_nil] at e1 e2
  have hbs:badS lim X=true:=e2
  obtain ⟨ho,hd⟩:=ht rfl
  exact ⟨v,Tn,by rw [hbs],ho,hch,e1.symm,by rw [hbs];exact hd⟩
def Wholes (w:World) (base lim:Nat) (l:List UInt8) (e:Ending) (w':World):Prop :=
 ∃v,e=.returned (.tuple #[v,.int .i64 (if badS lim l then 6 else 0)])∧w'.ownsRow w.heap.size 72 3 v ((okS lim l).map sgOf).length (sgs ((okS lim l).map sgOf))∧Below base w w'
theorem dec_more (l:List UInt8):∃c,dec false 0 l=dec true 0 l++c:=⟨_,dec_close 0 l⟩
theorem grp_len (o:Bool) (l:List UInt8):(grp (dec o 0 l)).length≤l.length:=by
 have h1:=cuts_flat opP (dec o 0 l)
 have h2:=dec_len_le o l 0
 have h3:∀gs:List (List Pt),(∀g∈gs,∃q t,g=q :: t)→gs.length≤gs.flatten.length:=fun gs=>by
  induction gs with
  | nil=>simp
  | cons g t ih =>
   intro h
   obtain ⟨q,u,rfl⟩:=h g (by simp)
   have:=ih fun g hg=>h g (by simp [hg])
   simp only [List.length_cons,List.flatten_cons,List.length_append]
   omega
 have:=h3 (grp (dec o 0 l)) (fun g hg=>cuts_group opP hg)
 rw [grp,h1] at this
 exact Nat.le_trans this h2
theorem okS_len (lim:Nat) (l:List UInt8):(okS lim l).length≤l.length:=Nat.le_trans (List.takeWhile_sublist _).length_le (grp_len false l)
set_option maxHeartbeats 4000000 in
theorem whole_any (base sb db lim m c:Nat) (vo:Value) (l:List UInt8) (A:Option Addr) (w:World) (hL:Laid w) (h:Live w base sb db lim vo [] [])
  (hr:Rd w w.heap.size A (bys l)) (hm:l.length=m) (hc:m≤c) (hcm:c≤9223372036854775807) (hb:base≤w.heap.size) (hg:5 < base) (hsm:m≤134217728) :
  Calls Tryd.prog 43 #[.pointer (some ⟨sb,0,none⟩),.slice A m c] w (Wholes w base lim l):=by
 obtain ⟨i0,hi,hz0,hz1,hz2⟩:=info_parts infoSg
 have HW:=Lib.hid (live_write base sb db lim m c vo [] l [] A w hL h hr hm hc hcm hb hg (by simp;omega))
 have HLI:=Lib.hid h
 have HL:=Lib.hid hL
 have HM:=Lib.hid hm
 have hol:=okS_len lim l
 rw [hm] at hol
 have HOL:=Lib.hid hol
 clear hL h hr hm hc hol
 go_enter Tryd.func43,Tryd.ntmps43
 go_wp2_with fail
 refine HW.out.mono ?_
 rintro e1 w1 ⟨v1,Tn,b,rfl,ho,hch,hf,ht⟩
 have HB1:=Lib.hid (hch.below hb (fun i hi=>HLI.out.hers hi))
 have HL1:=Lib.hid (HL.out.below HB1.out hg)
 have HF:=Lib.hid hf
 have HT:=Lib.hid ht
 have hs1:=hch.size
 cases b with
 | true =>
  obtain ⟨hD,hbad⟩:=HT.out (by first | trivial | rfl)
  obtain ⟨cc,hcc⟩:=dec_more l
  obtain ⟨e1,e2⟩:=hbad cc
  rw [List.nil_append,←hcc] at e1 e2
  rw [List.nil_append] at e1
  have HOK:=Lib.hid (show okS lim l=Tn from e1)
  have HBAD:=Lib.hid (show badS lim l=true from e2)
  have HO:=Lib.hid ho
  have HC:=Lib.hid (close_done sb 6 w1 hD (by decide))
  have hTl:(Tn.map sgOf).length≤134217728:=by rw [List.length_map,←e1];have:=HOL.out;unfold okS at this;omega
  obtain ⟨tl,htl⟩:∃tl,tl=(Tn.map sgOf).length:=⟨_,rfl⟩
  have HTL:=Lib.hid htl
  rw [←htl] at HO hTl
  clear ho hch hf ht hD hbad hcc e1 e2 htl HF HT
  go_wp2_with fail
  refine HC.out.mono ?_
  rintro e2 w2 ⟨rfl,n2,hw2⟩
  have HO2:=Lib.hid (show w2.ownsRow w.heap.size 72 3 v1 tl (sgs (Tn.map sgOf)) by rw [hw2];exact Ucd.own_below HO.out (below_drewN (Below.refl _ _) n2))
  have HB2:=Lib.hid (show Below base w w2 by rw [hw2];exact below_drewN HB1.out n2)
  have hs2:w.heap.size≤w2.heap.size:=HB2.out.size
  clear hw2 hs1
  go_wp2_with (at_builtin;refine wpList_append_rd _ rfl (.tmp 21) (.tmp 22) _ rfl w.heap.size 72 i0 _ 3 32 Tryd.underlying45 hi hz0 hz1 hz2 rfl (by decide) v1 tl (sgs (Tn.map sgOf)) rfl HO2.out 0 none 0 0 [] rfl rfl (Rd.empty _ _ _) (fun _ h=>nomatch h) (by unfold maxLen;omega) (by omega) hs2 ?_;intro v6 w6 hown6 hgr6 _)
  have HO6:=Lib.hid hown6
  have HB6:=Lib.hid (HB2.out.grown hgr6 (Nat.le_trans hb hs2) fun k hk=>Nat.le_trans hb (HO2.out.lt k hk).1)
  clear hown6 hgr6
  go_ret2
  refine ⟨v6,by rw [HBAD.out];rfl,?_,HB6.out⟩
  rw [HOK.out,←HTL.out]
  simpa using HO6.out
 | false =>
  obtain ⟨vo',hlv,hor⟩:=HF.out (by first | trivial | rfl)
  rw [List.nil_append,List.nil_append] at hlv
  have hb1:base≤w1.heap.size:=Nat.le_trans hb hs1
  have HC:=Lib.hid (live_close base sb db lim vo' l Tn w1 HL1.out hlv hb1 hg (by have:=HM.out;omega))
  have HAP:=Lib.hid (hlv.apart ho (by decide) (by decide) (by decide))
  have HLV:=Lib.hid hlv
  obtain ⟨TS,hTS⟩:∃TS,TS=Tn.map sgOf:=⟨_,rfl⟩
  rw [←hTS] at ho
  have HO:=Lib.hid ho
  have HTS:=Lib.hid hTS
  clear ho hch hf ht hlv hor hTS HF HT
  go_wp2_with fail
  refine HC.out.mono ?_
  rintro e2 w2 ⟨v2,T2,rfl,ho2,hc2,hok,_⟩
  have HOK:=Lib.hid hok
  obtain ⟨TS2,hTS2⟩:∃TS,TS=T2.map sgOf:=⟨_,rfl⟩
  rw [←hTS2] at ho2
  have hsum:TS.length+TS2.length≤134217728:=by
   have:=HOL.out
   rw [←hok,List.length_append] at this
   rw [HTS.out,hTS2,List.length_map,List.length_map];omega
  have HTS2:=Lib.hid hTS2
  obtain ⟨A2,c2,rfl,_,_,hr2⟩:=Utf.own_form ho2
  have HR2:=Lib.hid hr2
  have HO2:=Lib.hid (Norm.own_keep HO.out hc2 HAP.out)
  have HB2:=Lib.hid (HB1.out.trans (hc2.below hb1 (fun i hi=>HLV.out.hers hi)))
  have hs2:w.heap.size≤w2.heap.size:=HB2.out.size
  clear ho2 hc2 hok hTS2 hr2 hs1
  cases hbb:badS lim l
  all_goals
   have HBB:=Lib.hid hbb
   clear hbb
   go_wp2_with (at_builtin;refine wpList_append_rd _ rfl (.tmp 21) (.tmp 22) _ rfl w.heap.size 72 i0 _ 3 32 Tryd.underlying45 hi hz0 hz1 hz2 rfl (by decide) v1 TS.length (sgs TS) rfl HO2.out _ A2 TS2.length c2 (sgs TS2) rfl (sgs_len _) HR2.out (sgs_one _) (by unfold maxLen;omega) (by omega) hs2 ?_;intro v6 w6 hown6 hgr6 _)
   have HO6:=Lib.hid hown6
   have HB6:=Lib.hid (HB2.out.grown hgr6 (Nat.le_trans hb hs2) fun k hk=>Nat.le_trans hb (HO2.out.lt k hk).1)
   clear hown6 hgr6
   go_ret2
   refine ⟨v6,by rw [HBB.out];rfl,?_,HB6.out⟩
   rw [←HOK.out,List.map_append,←HTS.out,←HTS2.out,sgs_append,List.length_append]
   exact HO6.out
end Go.Proofs.YtdngaddggcmjgaaDoor.Seg
namespace Go.Proofs.YtdngaddggcmjgaaDoor.Seg
open Go.Shelf Go.RowKit Go.Sort
open Utf hiding infoI32 rd_new own_form rdec_any below_drewN new_any write_any close_any
open Ucd hiding grow same Told
open Norm hiding new_any write_any close_any
set_option maxRecDepth 100000
def spS (lim:Int) (l:List UInt8):List Sg:=if 1≤lim∧lim≤64 then (okS lim.toNat l).map sgOf else []
def spE (lim:Int) (l:List UInt8):Int:=if 1≤lim∧lim≤64 then (if badS lim.toNat l then 6 else 0) else 1
def SplitAns (w:World) (lim:Int) (l:List UInt8) (e:Ending) (w':World):Prop :=
 ∃v,e=.returned (.tuple #[v,.int .i64 (spE lim l)])∧w'.ownsRow w.heap.size 72 3 v (spS lim l).length (sgs (spS lim l))∧Below w.heap.size w w'
set_option maxHeartbeats 4000000 in
theorem split_any (lim:Int) (l:List UInt8) (A:Option Addr) (m c:Nat) (w:World) (hL:Laid w)
  (hr:Rd w w.heap.size A (bys l)) (hm:l.length=m) (hc:m≤c) (hcm:c≤9223372036854775807) (hsm:m≤134217728) :
  Calls Tryd.prog 26 #[.slice A m c,.int .i64 lim] w (SplitAns w lim l):=by
 have HR:=Lib.hid hr;have HL:=Lib.hid hL;have HM:=Lib.hid hm
 by_cases hlim:1≤lim∧lim≤64
 ·obtain ⟨lm,rfl⟩:∃lm:Nat,lim=lm:=⟨lim.toNat,by omega⟩
  have HN:=Lib.hid (new_good lm w hlim.1 hlim.2)
  have HE:=Lib.hid (show spE lm l=if badS lm l then 6 else 0 by unfold spE;rw [if_pos hlim];rfl)
  have HS:=Lib.hid (show spS lm l=(okS lm l).map sgOf by unfold spS;rw [if_pos hlim];rfl)
  clear hr hL hm hlim
  go_enter Tryd.func26,Tryd.ntmps26
  go_wp2_with fail
  refine HN.out.mono ?_
  rintro e1 w1 ⟨sb,db,rfl,hS,hb⟩
  have HSM:=Lib.hid (live_new hS)
  have HB:=Lib.hid hb
  have HL1:=Lib.hid (HL.out.next hb)
  have HW:=Lib.hid (whole_any w.heap.size sb db lm m c (.slice none 0 0) l A w1 HL1.out HSM.out ((HR.out.below hb).more hb.size) HM.out hc hcm hb.size HL.out.size hsm)
  clear hS hb
  go_wp2_with fail
  refine HW.out.mono ?_
  rintro e2 w2 ⟨v,rfl,ho,hb2⟩
  have HO:=Lib.hid ho
  have HB2:=Lib.hid hb2
  clear ho hb2
  cases hbb:badS lm l
  all_goals
   have HBB:=Lib.hid hbb
   clear hbb
   go_wp2_with fail
   go_ret2
   refine ⟨v,by rw [HE.out,HBB.out];rfl,?_,HB.out.trans HB2.out⟩
   rw [HS.out]
   exact Norm.own_mono HO.out HB.out.size
 ·have HN:=Lib.hid (new_bad lim w (by omega))
  have HE:=Lib.hid (show spE lim l=1 by unfold spE;rw [if_neg hlim])
  have HS:=Lib.hid (show spS lim l=[] by unfold spS;rw [if_neg hlim])
  clear hr hL hm hlim
  go_enter Tryd.func26,Tryd.ntmps26
  go_wp2_with fail
  refine HN.out.mono ?_
  rintro e1 w1 ⟨rfl,rfl⟩
  go_wp2_with fail
  go_ret2
  exact ⟨.slice none 0 0,by rw [HE.out];rfl,by rw [HS.out];exact World.ownsRow_nil _ _ _ _,Below.refl _ _⟩
end Go.Proofs.YtdngaddggcmjgaaDoor.Seg
namespace Go.Proofs.YtdngaddggcmjgaaDoor.Seg
open Go.Shelf Go.RowKit Go.Sort
open Utf hiding infoI32 rd_new own_form rdec_any below_drewN new_any write_any close_any
open Ucd hiding grow same Told
open Norm hiding new_any write_any close_any
set_option maxRecDepth 100000
theorem says_size (g:List Pt):(says g).size≤12*g.length:=by
 show (enc (normal (runs g))).toArray.size≤_
 rw [List.size_toArray]
 have h1:=enc_le (normal (runs g))
 have h2:=flen_le g
 rw [normal_len] at h1
 unfold flen at h2
 omega
end Go.Proofs.YtdngaddggcmjgaaDoor.Seg
namespace Go.Proofs.YtdngaddggcmjgaaDoor.Words
open Go.Shelf Go.RowKit Go.Sort
open Utf hiding infoI32 rd_new own_form own_below rdec_any below_drewN new_any write_any close_any
open Norm Seg
open Ucd hiding grow same Told
def rowS (x:Sx):List Value:=[.string x.t,.int .i64 x.a,.int .i64 x.e]
def sxs (l:List Sx):List Value:=l.flatMap rowS
def rowW (x:Wd):List Value:=[.string ⟨x.k.toArray⟩,.int .i64 x.f,.int .i64 x.g,.int .i64 x.a,.int .i64 x.e]
def wds (l:List Wd):List Value:=l.flatMap rowW
theorem sxs_up:∀l:List Sg,sxs (l.map up)=sgs l
 | []=>rfl
 | x :: t=>by
  have:=sxs_up t
  show rowS (up x)++sxs (t.map up)=_
  rw [this];rfl
theorem sxs_len (l:List Sx):(sxs l).length=l.length*3:=by
 induction l with
 | nil=>rfl
 | cons x t ih=>show (rowS x++sxs t).length=_;rw [List.length_append,ih,List.length_cons];show 3+_=_;omega
theorem wds_len (l:List Wd):(wds l).length=l.length*5:=by
 induction l with
 | nil=>rfl
 | cons x t ih=>show (rowW x++wds t).length=_;rw [List.length_append,ih,List.length_cons];show 5+_=_;omega
theorem wds_append (l m:List Wd):wds (l++m)=wds l++wds m:=List.flatMap_append
theorem sxs_get:∀(l:List Sx) {k:Nat} (h:k < l.length) (i:Nat),i < 3→(sxs l)[k*3+i]? = (rowS l[k])[i]?
 | x :: t,0,_,i,hi=>by
  show (rowS x++sxs t)[0*3+i]? = _
  rw [List.getElem?_append_left (by show _ < 3;omega)];simp
 | x :: t,k+1,h,i,hi=>by
  show (rowS x++sxs t)[(k+1)*3+i]? = _
  rw [List.getElem?_append_right (by show 3≤_;omega)]
  show (sxs t)[(k+1)*3+i - 3]? = _
  rw [show (k+1)*3+i - 3=k*3+i by omega,sxs_get t (by simpa using h) i hi];rfl
theorem wds_get:∀(l:List Wd) {k:Nat} (h:k < l.length) (i:Nat),i < 5→(wds l)[k*5+i]? = (rowW l[k])[i]?
 | x :: t,0,_,i,hi=>by
  show (rowW x++wds t)[0*5+i]? = _
  rw [List.getElem?_append_left (by show _ < 5;omega)];simp
 | x :: t,k+1,h,i,hi=>by
  show (rowW x++wds t)[(k+1)*5+i]? = _
  rw [List.getElem?_append_right (by show 5≤_;omega)]
  show (wds t)[(k+1)*5+i - 5]? = _
  rw [show (k+1)*5+i - 5=k*5+i by omega,wds_get t (by simpa using h) i hi];rfl
section
variable {w w':World} {B size:Nat} {e:TypeId}
theorem Rd_sx {l:List Sx} {b o:Nat} (h:Rd w B (some ⟨b,o,none⟩) (sxs l)) {k:Nat} (hk:k < l.length) :
  w.cell? ⟨b,o+k*3,none⟩=some (.string l[k].t)∧w.cell? ⟨b,o+k*3+1,none⟩=some (.int .i64 l[k].a)∧w.cell? ⟨b,o+k*3+2,none⟩=some (.int .i64 l[k].e):=by
 obtain ⟨b',o',e,_,hc⟩:=h (fun e=>by have:=sxs_len l;rw [e] at this;simp at this;omega)
 simp only [Option.some.injEq,Addr.mk.injEq,and_true] at e
 obtain ⟨rfl,rfl⟩:=e
 exact ⟨hc (k*3) _ (by have:=sxs_get l hk 0 (by omega);simpa [rowS] using this),by rw [Nat.add_assoc];exact hc _ _ (sxs_get l hk 1 (by omega)),by rw [Nat.add_assoc];exact hc _ _ (sxs_get l hk 2 (by omega))⟩
theorem own_frozen {g n cap:Nat} {xs:List Value} (h:w.ownsRow B e size (.slice (some ⟨g,0,none⟩) n cap) n xs) (j:Nat):w.frozen? ⟨g,j,none⟩=false:=by
 rcases h.2 with ⟨hv,_⟩ | ⟨g',cap',cur,hv,h1,h2,_⟩
 ·cases hv
 ·simp only [Value.slice.injEq,Option.some.injEq,Addr.mk.injEq,and_true,true_and] at hv
  obtain ⟨rfl,rfl⟩:=hv
  simp [World.frozen?,h2]
theorem mix_set {α β:Type} (f h:α→β) {P:List α} {q:Nat} (hq:q < P.length):((P.take q).map f++(P.drop q).map h).set q (f P[q])=(P.take (q+1)).map f++(P.drop (q+1)).map h:=by
 have hl:((P.take q).map f).length=q:=by rw [List.length_map,List.length_take,Nat.min_eq_left (Nat.le_of_lt hq)]
 rw [List.set_append_right _ _ (by omega),hl,Nat.sub_self,List.drop_eq_getElem_cons hq,List.map_cons,List.set_cons_zero,List.take_succ_eq_append_getElem hq,List.map_append,List.append_assoc]
 rfl
theorem mix_get {α β:Type} (f h:α→β) {P:List α} {q:Nat} (hq:q < P.length) (hd:q < ((P.take q).map f++(P.drop q).map h).length):((P.take q).map f++(P.drop q).map h)[q]=h P[q]:=by
 have hl:((P.take q).map f).length=q:=by rw [List.length_map,List.length_take,Nat.min_eq_left (Nat.le_of_lt hq)]
 rw [List.getElem_append_right (by omega)]
 simp only [hl,Nat.sub_self,List.getElem_map,List.getElem_drop,Nat.add_zero]
theorem cat_next {l:List Sx} {s k:Nat} (hs:s≤k) (hk:k < l.length):catF l s (k+1)=catF l s k++txt l[k]:=by
 unfold catF
 rw [List.take_succ_eq_append_getElem hk,List.drop_append_of_le_length (by rw [List.length_take];omega),List.map_append,List.flatten_append]
 simp
theorem cat_none (l:List Sx) (s:Nat):catF l s s=[]:=by
 unfold catF
 rw [List.drop_of_length_le (by rw [List.length_take];omega)]
 rfl
end
theorem infoU8:(Tryd.prog.info? 5).map (fun i=>(i.zero,i.size,i.bytes))=some (some (.int .u8 0),1,1):=by kernel_rfl
theorem infoWd:(Tryd.prog.info? 33).map (fun i=>(i.zero,i.size,i.bytes))=some (some (.agg #[.string ⟨#[]⟩,.int .i64 0,.int .i64 0,.int .i64 0,.int .i64 0]),5,48):=by kernel_rfl
end Go.Proofs.YtdngaddggcmjgaaDoor.Words
namespace Go.Proofs.YtdngaddggcmjgaaDoor.Words
open Go.Shelf Go.RowKit Go.Sort
open Utf hiding infoI32 rd_new own_form own_below rdec_any below_drewN new_any write_any close_any infoU8
open Norm hiding new_any write_any close_any
open Seg
open Ucd hiding grow same Told
def total (l:List Sx):Nat:=((l.map txt).flatten).length
theorem flat_sub {a b:List (List UInt8)} (h:a.Sublist b):a.flatten.length≤b.flatten.length:=by
 induction h with
 | slnil=>simp
 | cons x _ ih=>simp only [List.flatten_cons,List.length_append];omega
 | cons_cons x _ ih=>simp only [List.flatten_cons,List.length_append];omega
theorem cat_len (l:List Sx) (i j:Nat):(catF l i j).length≤total l:=by
 unfold catF total
 exact flat_sub (((List.drop_sublist i _).trans (List.take_sublist j l)).map txt)
theorem txt_len {l:List Sx} {x:Sx} (h:x∈l):(txt x).length≤total l:=by
 unfold total
 exact (List.sublist_flatten_of_mem (List.mem_map_of_mem h)).length_le
theorem key_room {l:List UInt8} (h:l.length≤4294967296):(normal (runesF l)).length≤17179869184:=by
 have h1:=runes_len l
 have h2:=normal_len (runesF l)
 have h3:=fulls_len (runesF l)
 omega
theorem at_get {l:List Sx} {k:Nat} (h:k < l.length):atF l k=l[k].a:=by simp [atF,List.getElem?_eq_getElem h]
theorem end_get {l:List Sx} {k:Nat} (h:k < l.length):endF l k=l[k].e:=by simp [endF,List.getElem?_eq_getElem h]
end Go.Proofs.YtdngaddggcmjgaaDoor.Words
namespace Go.Proofs.YtdngaddggcmjgaaDoor.Words
open Go.Shelf Go.RowKit Go.Sort
open Utf hiding infoI32 rd_new own_form own_below rdec_any below_drewN new_any write_any close_any infoU8
open Norm hiding new_any write_any close_any
open Seg hiding take_any
open Ucd hiding grow same Told
def wordsF (lim:Int) (l:List UInt8):List Wd:=if spE lim l=0 then joinF ((spS lim l).map up) else []
theorem total_says:∀gs:List (List Pt),total ((gs.map sgOf).map up)≤12*gs.flatten.length
 | []=>by simp [total]
 | g :: t=>by
  have ih:=total_says t
  have h1:=says_size g
  have h2:(txt (up (sgOf g))).length=(says g).size:=Array.length_toList
  unfold total at ih ⊢
  simp only [List.map_cons,List.flatten_cons,List.length_append] at ih ⊢
  omega
theorem flat_subP {a b:List (List Pt)} (h:a.Sublist b):a.flatten.length≤b.flatten.length:=by
 induction h with
 | slnil=>simp
 | cons x _ ih=>simp only [List.flatten_cons,List.length_append];omega
 | cons_cons x _ ih=>simp only [List.flatten_cons,List.length_append];omega
theorem total_split (lim:Int) (l:List UInt8):total ((spS lim l).map up)≤12*l.length:=by
 unfold spS
 split
 ·refine Nat.le_trans (total_says _) (Nat.mul_le_mul_left _ ?_)
  have h1:(okS lim.toNat l).flatten.length≤(Seg.grp (dec false 0 l)).flatten.length:=flat_subP (List.takeWhile_sublist _)
  rw [Seg.grp,cuts_flat] at h1
  exact Nat.le_trans h1 (dec_len_le false l 0)
 ·simp [total]
theorem split_len (lim:Int) (l:List UInt8):(spS lim l).length≤l.length:=by
 unfold spS
 split
 ·rw [List.length_map];exact okS_len _ l
 ·simp
def WordsAns (w:World) (lim:Int) (l:List UInt8) (e:Ending) (w':World):Prop :=
 ∃v,e=.returned (.tuple #[v,.int .i64 (spE lim l)])∧w'.ownsRow w.heap.size 33 5 v (wordsF lim l).length (wds (wordsF lim l))∧Below w.heap.size w w'
theorem sp_err (lim:Int) (l:List UInt8):spE lim l=0∨spE lim l=1∨spE lim l=6:=by
 unfold spE
 split
 ·split
  ·exact .inr (.inr rfl)
  ·exact .inl rfl
 ·exact .inr (.inl rfl)
instance:DecidableEq Wd:=fun a b=>decidable_of_iff (a.k=b.k∧a.f=b.f∧a.g=b.g∧a.a=b.a∧a.e=b.e) (by cases a;cases b;simp)
theorem spFields:Tryd.prog.underlying 31=some (.struct (Tryd.prog.fieldsOf 31)):=by kernel_rfl
theorem spHeld:Tryd.prog.stoodInHeld 31=false:=by kernel_rfl
theorem Rd_wd {w:World} {B:Nat} {l:List Wd} {b o:Nat} (h:Rd w B (some ⟨b,o,none⟩) (wds l)) {k:Nat} (hk:k < l.length) (j:Nat) (hj:j < 5):w.cell? ⟨b,o+k*5+j,none⟩=(rowW l[k])[j]?:=by
 obtain ⟨b',o',e,_,hc⟩:=h (fun e=>by have:=wds_len l;rw [e] at this;simp at this;omega)
 simp only [Option.some.injEq,Addr.mk.injEq,and_true] at e
 obtain ⟨rfl,rfl⟩:=e
 have hg:=wds_get l hk j hj
 have hs:(rowW l[k])[j]? = some ((rowW l[k])[j]'(by show j < 5;exact hj)):=List.getElem?_eq_getElem _
 rw [hs] at hg ⊢
 rw [Nat.add_assoc]
 exact hc _ _ hg
end Go.Proofs.YtdngaddggcmjgaaDoor.Words
