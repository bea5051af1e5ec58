/-
  Texts of stage 7, part 31.
-/
import Derived.Laws.ResultCell
import Derived.Test.YtegdbmbenjnacaaGreatR8
import Derived.Test.YtegdbmbenjnacaaGreatR14
import Derived.Test.YtegdbmbenjnacaaGreatR16
import Derived.Test.YtegdbmbenjnacaaGreatR30
namespace Go.Proofs.YtegdbmbenjnacaaGreat.Pike
open Go.RowKit Mem Sparse
open Prg (Ins ints mem_ints mayP nxt nexts nexts_iff nxt_lt Rch)
open Sset (Tx ArgT Has3 hasS)
open Syn (Nd NV nvs rd_nv nv_form Means ArgN)
set_option maxRecDepth 100000
theorem span_ret {w:World} {g:Nat} {v1 v2 v3 v4 x:Value} {fn:Func} {p u:Tmp} {R:Ending→World→Prop} {a:Act} (h:Blk w g 52 [v1,v2,v3,v4]) (hr:fn.results=#[.cell p 52,.tmp u]) (hp:a.tmps.getD p undef=.pointer (some ⟨g,0,none⟩)) (hu:a.tmps.getD u undef=x) (hd:a.defers=[]) (hR:R (.returned (.tuple #[.agg #[v1,v2,v3,v4],x])) w):bodyPost Tryz.prog fn R .ret a w:=by
 refine bodyPost_ret ?_ hd hR
 rw [results_cell_tmp hr,hp,hu]
 simp [asAddr,run_loadVar_row w g 52 52 [v1,v2,v3,v4].toArray (0,0) _ h Tryz.underlying52 rfl (by kernel_rfl),Result.andThen]
def spL:Option (Nat × Nat)→List Value
 | none=>[.int .i64 0,.int .i64 0,.int .i64 0,.int .i64 0]
 | some (s,e)=>[.int .i64 (s:Int),.int .i64 (e:Int),.int .i64 0,.int .i64 0]
def SpanT (w0 w:World) (rb:Nat) (R:Rv) (x y:Fr) (p:List Ins) (W:List Tx) (P:Nat) (e:Ending) (w':World):Prop :=
 ∃S x' y' pl' lt',e=.returned (.tuple #[.agg (spL S).toArray,.bool S.isSome])∧Run w0 w' rb R pl' lt' x' y'∧Mv w w' (Rf rb x y) (Rf rb x' y')∧FirstT p W P S
section
variable {w w':World} {S S':Nat→Prop}
theorem Mv.aside (h:Mv w w' S S') {g:Nat} (hg:w.heap.size≤g) (i:Nat) (v:Value):Mv w (w'.setCell ⟨g,i,none⟩ v) S S' :=
 ⟨h.chg.trans (T:=fun k=>k=g) ((Chg.refl w' _).setCell (p:=⟨g,i,none⟩) v rfl) fun k hk e=>by omega,h.new⟩
end
section
variable {w0 w w':World} {rb pl lt:Nat} {R:Rv} {x y:Fr}
theorem Run.aside (h:Run w0 w rb R pl lt x y) {g:Nat} (hg:¬Rf rb x y g) (h0:w0.heap.size≤g) (i:Nat) (v:Value):Run w0 (w.setCell ⟨g,i,none⟩ v) rb R pl lt x y:=by
 have hc:Chg w (w.setCell ⟨g,i,none⟩ v) (fun k=>k=g):=(Chg.refl w _).setCell (p:=⟨g,i,none⟩) v rfl
 exact ⟨h.blk.far (p:=⟨g,i,none⟩) (fun e=>hg (.inl e.symm)) v,h.now.keep hc fun k hk e=>hg (.inr (.inl (e ▸ hk))),h.old.keep hc fun k hk e=>hg (.inr (.inr (e ▸ hk))),h.dj,h.nx,h.ny,h.le,h.bel.trans (hc.below h.bel.size fun k hk e=>by omega)⟩
end
structure Sp (w0 w wr:World) (rb sb:Nat) (R:Rv) (i lt:Nat) (x y xr yr:Fr) (S:Option (Nat × Nat)):Prop where
 run:Run w0 wr rb R i lt xr yr
 mv:Mv w wr (Rf rb x y) (Rf rb xr yr)
 blk:Blk wr sb 52 (spL S)
 ne:¬Rf rb xr yr sb
 hi:w.heap.size≤sb
 bel:w0.heap.size≤sb
section
variable {w0 w wr wr':World} {rb sb i i' lt lt':Nat} {R:Rv} {x y xr yr xr' yr':Fr} {S:Option (Nat × Nat)}
theorem Sp.drew (h:Sp w0 w wr rb sb R i lt x y xr yr S):Sp w0 w wr.drew rb sb R i lt x y xr yr S:=⟨h.run.drew,h.mv.below (Below.refl _ _).drew,h.blk,h.ne,h.hi,h.bel⟩
theorem Sp.next (h:Sp w0 w wr rb sb R i lt x y xr yr S) (hb:Below wr.heap.size wr wr'):Sp w0 w wr' rb sb R i lt x y xr yr S:=⟨h.run.next hb,h.mv.below hb,h.blk.below hb h.blk.lt,h.ne,h.hi,h.bel⟩
theorem Sp.move (h:Sp w0 w wr rb sb R i lt x y xr yr S) (k:Run w0 wr' rb R i' lt' xr' yr') (m:Mv wr wr' (Rf rb xr yr) (Rf rb xr' yr')):Sp w0 w wr' rb sb R i' lt' x y xr' yr' S :=
 ⟨k,h.mv.trans m,blk_keep h.blk m.chg h.ne,fun hf=>h.ne (m.new _ h.blk.lt hf),h.hi,h.bel⟩
theorem Sp.lay (h:Sp w0 w wr rb sb R i lt x y xr yr S) (s e:Nat):∃u,u=(((wr.setCell ⟨sb,0,none⟩ (.int .i64 (s:Int))).setCell ⟨sb,1,none⟩ (.int .i64 (e:Int))).setCell ⟨sb,2,none⟩ (.int .i64 0)).setCell ⟨sb,3,none⟩ (.int .i64 0)∧Sp w0 w u rb sb R i lt x y xr yr (some (s,e)):=by
 refine ⟨_,rfl,(((h.run.aside h.ne h.bel 0 _).aside h.ne h.bel 1 _).aside h.ne h.bel 2 _).aside h.ne h.bel 3 _,(((h.mv.aside h.hi 0 _).aside h.hi 1 _).aside h.hi 2 _).aside h.hi 3 _,?_,h.ne,h.hi,h.bel⟩
 have:=(((h.blk.set_ 0 (.int .i64 (s:Int))).set_ 1 (.int .i64 (e:Int))).set_ 2 (.int .i64 0)).set_ 3 (.int .i64 0)
 cases S with
 | none=>exact this
 | some q=>exact this
theorem Sp.lay0 (h:Sp w0 w wr rb sb R i lt x y xr yr none):∃u,u=(((wr.setCell ⟨sb,0,none⟩ (.int .i64 0)).setCell ⟨sb,1,none⟩ (.int .i64 0)).setCell ⟨sb,2,none⟩ (.int .i64 0)).setCell ⟨sb,3,none⟩ (.int .i64 0)∧Sp w0 w u rb sb R i lt x y xr yr none :=
 ⟨_,rfl,(((h.run.aside h.ne h.bel 0 _).aside h.ne h.bel 1 _).aside h.ne h.bel 2 _).aside h.ne h.bel 3 _,(((h.mv.aside h.hi 0 _).aside h.hi 1 _).aside h.hi 2 _).aside h.hi 3 _,(((h.blk.set_ 0 (.int .i64 0)).set_ 1 (.int .i64 0)).set_ 2 (.int .i64 0)).set_ 3 (.int .i64 0),h.ne,h.hi,h.bel⟩
theorem Sp.setLt (h:Sp w0 w wr rb sb R i lt x y xr yr S) (P:Nat):Sp w0 w (wr.setCell ⟨rb,9,none⟩ (.int .i64 (P:Int))) rb sb R i P x y xr yr S:=by
 obtain ⟨k,m⟩:=h.run.setLt P
 exact h.move k m
end
set_option maxHeartbeats 16000000 in
theorem span_any {w0 w:World} {rb pl lt:Nat} {A U:Option Addr} {n c m d:Nat} {x y:Fr} {V:List NV} {p:List Ins} {W:List Tx} (P:Nat) (h:Run w0 w rb ⟨A,n,c,U,m,d,true,true⟩ pl lt x y) (hs:Src w0 ⟨A,n,c,U,m,d,true,true⟩ V p W) (hP:P≤m) :
  Calls Tryz.prog 32 #[.pointer (some ⟨rb,0,none⟩),.int .i64 (P:Int)] w (SpanT w0 w rb ⟨A,n,c,U,m,d,true,true⟩ x y p W P):=by
 obtain ⟨sb,hsb⟩:∃s,s=w.heap.size:=⟨_,rfl⟩
 obtain ⟨u,hu⟩:∃u,u=w.alloc (.cells #[.int .i64 0,.int .i64 0,.int .i64 0,.int .i64 0] 52):=⟨_,rfl⟩
 have hbu:Below w.heap.size w u:=by rw [hu];exact (Below.refl _ _).alloc (Nat.le_refl _) _
 have H1:=Lib.hid (show Sp w0 w u rb sb ⟨A,n,c,U,m,d,true,true⟩ pl lt x y x y none from
  ⟨h.next hbu,(Mv.refl w _).below hbu,by rw [hu,hsb];exact Blk.new w _ _,fun hf=>by have:=(h.hers hf).2;omega,by omega,by have:=h.bel.size;omega⟩)
 have HS:=Lib.hid hs
 have HU:=Lib.hid hu;have HSB:=Lib.hid hsb
 have hwl:=hs.win.len
 have HWL:=Lib.hid hwl
 have hm63:m≤1073741824:=hs.win.sm
 have hN:0 < n:=by have:=(Prg.may_last hs.may).1;have:=hs.arg.len2;dsimp only at this;omega
 clear h hs hbu hu hsb hwl
 go_enter Tryz.func32,Tryz.ntmps32
 go_upto_region 1 with fail
 rw [←HU.out,←HSB.out]
 go_wp2_with (go_at_call 47;refine (restart_any P H1.out.run).mono ?_;rintro e1 w1 ⟨x1,rfl,k1,k2,k3⟩;have K1:=Lib.hid (H1.out.move k1 k2);have K3:=Lib.hid k3;clear k1 k2 k3)
 go_loopw [5,6] (fun fv mv wr=>∃(i l:Nat) (xr yr:Fr) (S:Option (Nat × Nat)),P≤i∧i≤m∧Hid (Sp w0 w wr rb sb ⟨A,n,c,U,m,d,true,true⟩ i l x y xr yr S)∧fv=.bool S.isSome ∧
   ((mv=.bool true∧∃hi,Hid (Fnd p W i P S hi)∧Hid (Side p W true true i P hi xr.L xr.F)∧Hid (∀k∈xr.L,xr.F k < hi)∧Hid (Cl p (bg true i) (en true W.length i) xr.L xr.F)∧(∀q,S=some q→hi=l+1))∨(mv=.bool false∧Hid (FirstT p W P S)))) (fun _ mv wr=>2*(m - placeOf wr rb)+isT mv)
 case atStart=>exact ⟨P,lt,x1,y,none,Nat.le_refl _,hP,K1,rfl,.inl ⟨rfl,P,Lib.hid ⟨rfl,fun s hs=>lastM_early hs⟩,by rw [K3.out];exact Lib.hid (side_nil (Nat.le_refl _)),by rw [K3.out];exact Lib.hid (fun k hk=>by cases hk),by rw [K3.out];exact Lib.hid cl_nil,fun q hq=>by cases hq⟩⟩
 case round =>
  obtain ⟨i,l,xr,yr,S,hi1,hi2,J1,rfl,hm⟩:=hrel
  clear K1 K3 H1 HU
  have HPL:=Lib.hid J1.out.run.place
  rcases hm with ⟨rfl,hi,JF,JS,JB,JC,JL⟩ | ⟨rfl,JT⟩
  ·cases S with
   | none =>
    have JHI:=Lib.hid (show hi=i from JF.out.1)
    have HJN:=Lib.hid (join_any J1.out.run HS.out hN fun z c hz hn=>(JC.out z c hz (by rw [HWL.out];exact hn)).1)
    clear JL
    go_upto_region 7 with (first | (go_at_call 48;refine HJN.out.mono ?_;rintro e2 w2 ⟨x2,rfl,k1,k2,k3⟩;have K1:=Lib.hid (J1.out.move k1 k2);have K3:=Lib.hid (JS.out.join JC.out hi1 (by have:=JHI.out;omega) (by rw [HWL.out];exact k3)).1;have K4:=Lib.hid k3.at_;clear k1 k2 k3))
    have KB:=Lib.hid (fun k (hk:k∈x2.L)=>show x2.F k < i+1 from Nat.lt_succ_of_le (K3.out.snd k hk).2.1)
    have KH:=Lib.hid (show i+1=(match (none:Option (Nat × Nat)) with | none=>i+1 | some (s,_)=>s+1) from rfl)
    have HFR:=Lib.hid (K1.out.run.first p HS.out [6] 1 rfl (by omega))
    have HMA:=Lib.hid (K1.out.next ((Below.refl _ _).alloc (Nat.le_refl _) (.cells (ks .i64 [6]).toArray 3)))
    cases hf:firstOf p [6] x2.L with
    | none =>
     rw [hf] at HFR
     have HF1:=Lib.hid (show Calls Tryz.prog 24 _ _ (Tells _ (.tuple #[.int .i64 0,.bool false])) from HFR.out)
     have HN1:=Lib.hid (fnd_no JF.out K3.out KH.out hf)
     have HST:=Lib.hid (step_any P HMA.out.run HS.out hi2 (Nat.le_refl _) K3.out)
     clear hf HFR
     by_cases he:i=m∨x2.L=[]
     ·have HE:=Lib.hid he
      have HFT:=Lib.hid (show FirstT p W P none from fnd_end (by have:=HN1.out;have hm:i=m:=he.resolve_right (fun e=>by have:=K4.out;rw [e] at this;cases this);rw [hm,←HWL.out] at this;exact this))
      clear he
      go_wp2_with (first | (go_at_call 24;refine HF1.out.mono ?_;rintro e2 w3 ⟨rfl,rfl⟩) | (go_at_call 23;refine HST.out.mono ?_;intro e3 w4 h3;unfold Stepped at h3;rw [if_pos HE.out] at h3;obtain ⟨rfl,k1,k2⟩:=h3;have N1:=Lib.hid (HMA.out.move k1 k2);clear k1 k2))
      go_roundw
      case rel=>exact ⟨i,i,x2,yr,none,hi1,hi2,N1,rfl,.inr ⟨rfl,HFT⟩⟩
      case measure=>rw [HPL.out,N1.out.run.place];simp [isT]
     ·have HE:=Lib.hid he
      have him:i < m:=by omega
      clear he
      go_wp2_with (first | (go_at_call 24;refine HF1.out.mono ?_;rintro e2 w3 ⟨rfl,rfl⟩) | (go_at_call 23;refine HST.out.mono ?_;intro e3 w4 h3;unfold Stepped at h3;rw [if_neg HE.out] at h3;obtain ⟨x3,y3,rfl,k1,k2,k3,k4,k5⟩:=h3;have N1:=Lib.hid (HMA.out.move k1 k2);have N3:=Lib.hid k3;have N4:=Lib.hid k4;have N5:=Lib.hid k5;clear k1 k2 k3 k4 k5))
      go_roundw
      case rel=>exact ⟨i+1,i,x3,y3,none,by omega,by omega,N1,rfl,.inl ⟨rfl,i+1,HN1,N3,N4,by rw [HWL.out];exact N5,fun q hq=>by cases hq⟩⟩
      case measure=>rw [HPL.out,N1.out.run.place];simp [isT];omega
    | some k =>
     rw [hf] at HFR
     have HF1:=Lib.hid (show Calls Tryz.prog 24 _ _ (Tells _ (.tuple #[.int .i64 (k:Int),.bool true])) from HFR.out)
     obtain ⟨hmem,_⟩:=firstOf_some hf
     obtain ⟨y1,y2⟩:=fnd_yes JF.out K3.out KH.out KB.out hf
     have hkn:k < n:=HMA.out.run.now.lt hmem
     have hkn2:(k:Int) < (n:Int):=by omega
     have ck:=HMA.out.run.now.cell hmem
     have c6:=HMA.out.run.c6;have c4:=HMA.out.run.c4
     obtain ⟨u2,hu2,h2⟩:=HMA.out.lay (x2.F k) i
     have c9:=h2.run.c9;have f9:=h2.run.fr 9;have s0:World.cell? _ _=some (Value.int .i64 ((x2.F k:Nat):Int)):=h2.blk.cell 0
     have H3:=Lib.hid (h2.setLt (x2.F k))
     have hb:=HMA.out.blk
     have g0:=hb.frozen 0;have g1:=hb.frozen 1;have g2:=hb.frozen 2;have g3:=hb.frozen 3
     have b0:World.cell? _ _=some (Value.int .i64 0):=hb.cell 0;have b1:World.cell? _ _=some (Value.int .i64 0):=hb.cell 1;have b2:World.cell? _ _=some (Value.int .i64 0):=hb.cell 2;have b3:World.cell? _ _=some (Value.int .i64 0):=hb.cell 3
     have HU2:=Lib.hid hu2
     have hFi:=(K3.out.snd k hmem).2.1
     have HLS:=Lib.hid (K3.out.less (hi':=x2.F k+1) (by omega))
     have HNE:=Lib.hid (show x2.L≠[] from fun e=>by rw [e] at hmem;cases hmem)
     have HY:=Lib.hid y1
     generalize hfk:x2.F k=fk at *
     have HST:=Lib.hid (step_any P H3.out.drew.run HS.out hi2 hFi HLS.out)
     obtain ⟨u3,hu3⟩:∃u3,u3=u2.setCell ⟨rb,9,none⟩ (.int .i64 (fk:Int)):=⟨_,rfl⟩
     rw [←hu3] at H3 HST
     have HU3:=Lib.hid hu3
     clear hf HFR hmem y1 y2 hu2 h2 hb hfk hu3 hkn
     go_upto_region 9 with (first | (go_at_call 24;refine HF1.out.mono ?_;rintro e2 w3 ⟨rfl,rfl⟩))
     go_region
     rw [←HU2.out]
     clear b0 b1 b2 b3 g0 g1 g2 g3 c4 c6 ck
     by_cases he:i=m
     ·have HE:=Lib.hid (show i=(⟨A,n,c,U,m,d,true,true⟩:Rv).m∨x2.L=[] from .inl he)
      have HFT:=Lib.hid (show FirstT p W P (some (fk,i)) from fnd_end (by have:=HY.out;rw [he,←HWL.out] at this ⊢;exact this))
      clear he
      go_wp2_with (first | (go_at_call 23;rw [←HU3.out];refine HST.out.mono ?_;intro e3 w4 h3;unfold Stepped at h3;rw [if_pos HE.out] at h3;obtain ⟨rfl,k1,k2⟩:=h3;have N1:=Lib.hid (H3.out.drew.move k1 k2);clear k1 k2))
      go_roundw
      case rel=>exact ⟨i,fk,x2,yr,some (fk,i),hi1,hi2,N1,rfl,.inr ⟨rfl,HFT⟩⟩
      case measure=>rw [HPL.out,N1.out.run.place];simp [isT]
     ·have HE:=Lib.hid (show ¬(i=(⟨A,n,c,U,m,d,true,true⟩:Rv).m∨x2.L=[]) from fun h=>h.elim he HNE.out)
      have him:i < m:=by omega
      clear he
      go_wp2_with (first | (go_at_call 23;rw [←HU3.out];refine HST.out.mono ?_;intro e3 w4 h3;unfold Stepped at h3;rw [if_neg HE.out] at h3;obtain ⟨x3,y3,rfl,k1,k2,k3,k4,k5⟩:=h3;have N1:=Lib.hid (H3.out.drew.move k1 k2);have N3:=Lib.hid k3;have N4:=Lib.hid k4;have N5:=Lib.hid k5;clear k1 k2 k3 k4 k5))
      go_roundw
      case rel=>exact ⟨i+1,fk,x3,y3,some (fk,i),by omega,by omega,N1,rfl,.inl ⟨rfl,fk+1,HY,N3,N4,by rw [HWL.out];exact N5,fun q hq=>rfl⟩⟩
      case measure=>rw [HPL.out,N1.out.run.place];simp [isT];omega
   | some q =>
    obtain ⟨s,e⟩:=q
    obtain rfl:hi=l+1:=JL _ rfl
    have JSL:=Lib.hid (show s=l by have:=JF.out.1;omega)
    obtain rfl:=JSL.out
    clear JL JSL
    go_upto_region 7 with fail
    have KB:=JB
    have KH:=Lib.hid (show s+1=(match (some (s,e):Option (Nat × Nat)) with | none=>i+1 | some (s,_)=>s+1) from rfl)
    have HFR:=Lib.hid (J1.out.run.first p HS.out [6] 1 rfl (by omega))
    have HMA:=Lib.hid (J1.out.next ((Below.refl _ _).alloc (Nat.le_refl _) (.cells (ks .i64 [6]).toArray 3)))
    cases hf:firstOf p [6] xr.L with
    | none =>
     rw [hf] at HFR
     have HF1:=Lib.hid (show Calls Tryz.prog 24 _ _ (Tells _ (.tuple #[.int .i64 0,.bool false])) from HFR.out)
     have HN1:=Lib.hid (fnd_no JF.out JS.out KH.out hf)
     have HST:=Lib.hid (step_any P HMA.out.run HS.out hi2 (by have:=JF.out.2.2.1;omega) JS.out)
     clear hf HFR
     by_cases he:i=m∨xr.L=[]
     ·have HE:=Lib.hid he
      have QF:FirstT p W P (some (s,e)):=by
       by_cases hm:i=m
       ·have:=HN1.out;rw [hm,←HWL.out] at this;exact fnd_end this
       ·have hx:=he.resolve_left hm;have h5:=JS.out;rw [hx] at h5;exact fnd_stop HN1.out h5 (by rw [HWL.out];exact hi2)
      have HFT:=Lib.hid (show FirstT p W P (some (s,e)) from QF)
      clear QF
      clear he
      go_wp2_with (first | (go_at_call 24;refine HF1.out.mono ?_;rintro e2 w3 ⟨rfl,rfl⟩) | (go_at_call 23;refine HST.out.mono ?_;intro e3 w4 h3;unfold Stepped at h3;rw [if_pos HE.out] at h3;obtain ⟨rfl,k1,k2⟩:=h3;have N1:=Lib.hid (HMA.out.move k1 k2);clear k1 k2))
      go_roundw
      case rel=>exact ⟨i,s,xr,yr,(some (s,e)),hi1,hi2,N1,rfl,.inr ⟨rfl,HFT⟩⟩
      case measure=>rw [HPL.out,N1.out.run.place];simp [isT]
     ·have HE:=Lib.hid he
      have him:i < m:=by omega
      clear he
      go_wp2_with (first | (go_at_call 24;refine HF1.out.mono ?_;rintro e2 w3 ⟨rfl,rfl⟩) | (go_at_call 23;refine HST.out.mono ?_;intro e3 w4 h3;unfold Stepped at h3;rw [if_neg HE.out] at h3;obtain ⟨x3,y3,rfl,k1,k2,k3,k4,k5⟩:=h3;have N1:=Lib.hid (HMA.out.move k1 k2);have N3:=Lib.hid k3;have N4:=Lib.hid k4;have N5:=Lib.hid k5;clear k1 k2 k3 k4 k5))
      go_roundw
      case rel=>exact ⟨i+1,s,x3,y3,(some (s,e)),by omega,by omega,N1,rfl,.inl ⟨rfl,s+1,HN1,N3,N4,by rw [HWL.out];exact N5,fun q hq=>rfl⟩⟩
      case measure=>rw [HPL.out,N1.out.run.place];simp [isT];omega
    | some k =>
     rw [hf] at HFR
     have HF1:=Lib.hid (show Calls Tryz.prog 24 _ _ (Tells _ (.tuple #[.int .i64 (k:Int),.bool true])) from HFR.out)
     obtain ⟨hmem,_⟩:=firstOf_some hf
     obtain ⟨y1,y2⟩:=fnd_yes JF.out JS.out KH.out KB.out hf
     have hkn:k < n:=HMA.out.run.now.lt hmem
     have hkn2:(k:Int) < (n:Int):=by omega
     have ck:=HMA.out.run.now.cell hmem
     have c6:=HMA.out.run.c6;have c4:=HMA.out.run.c4
     obtain ⟨u2,hu2,h2⟩:=HMA.out.lay (xr.F k) i
     have c9:=h2.run.c9;have f9:=h2.run.fr 9;have s0:World.cell? _ _=some (Value.int .i64 ((xr.F k:Nat):Int)):=h2.blk.cell 0
     have H3:=Lib.hid (h2.setLt (xr.F k))
     have hb:=HMA.out.blk
     have g0:=hb.frozen 0;have g1:=hb.frozen 1;have g2:=hb.frozen 2;have g3:=hb.frozen 3
     have b0:World.cell? _ _=some (Value.int .i64 (s:Int)):=hb.cell 0;have b1:World.cell? _ _=some (Value.int .i64 (e:Int)):=hb.cell 1;have b2:World.cell? _ _=some (Value.int .i64 0):=hb.cell 2;have b3:World.cell? _ _=some (Value.int .i64 0):=hb.cell 3
     have HU2:=Lib.hid hu2
     have hFi:=(JS.out.snd k hmem).2.1
     have HLS:=Lib.hid (JS.out.less (hi':=xr.F k+1) (by omega))
     have HNE:=Lib.hid (show xr.L≠[] from fun e=>by rw [e] at hmem;cases hmem)
     have HY:=Lib.hid y1
     generalize hfk:xr.F k=fk at *
     have HST:=Lib.hid (step_any P H3.out.drew.run HS.out hi2 hFi HLS.out)
     obtain ⟨u3,hu3⟩:∃u3,u3=u2.setCell ⟨rb,9,none⟩ (.int .i64 (fk:Int)):=⟨_,rfl⟩
     rw [←hu3] at H3 HST
     have HU3:=Lib.hid hu3
     clear hf HFR hmem y1 y2 hu2 h2 hb hfk hu3 hkn
     go_upto_region 9 with (first | (go_at_call 24;refine HF1.out.mono ?_;rintro e2 w3 ⟨rfl,rfl⟩))
     go_region
     rw [←HU2.out]
     clear b0 b1 b2 b3 g0 g1 g2 g3 c4 c6 ck
     by_cases he:i=m
     ·have HE:=Lib.hid (show i=(⟨A,n,c,U,m,d,true,true⟩:Rv).m∨xr.L=[] from .inl he)
      have HFT:=Lib.hid (show FirstT p W P (some (fk,i)) from fnd_end (by have:=HY.out;rw [he,←HWL.out] at this ⊢;exact this))
      clear he
      go_wp2_with (first | (go_at_call 23;rw [←HU3.out];refine HST.out.mono ?_;intro e3 w4 h3;unfold Stepped at h3;rw [if_pos HE.out] at h3;obtain ⟨rfl,k1,k2⟩:=h3;have N1:=Lib.hid (H3.out.drew.move k1 k2);clear k1 k2))
      go_roundw
      case rel=>exact ⟨i,fk,xr,yr,some (fk,i),hi1,hi2,N1,rfl,.inr ⟨rfl,HFT⟩⟩
      case measure=>rw [HPL.out,N1.out.run.place];simp [isT]
     ·have HE:=Lib.hid (show ¬(i=(⟨A,n,c,U,m,d,true,true⟩:Rv).m∨xr.L=[]) from fun h=>h.elim he HNE.out)
      have him:i < m:=by omega
      clear he
      go_wp2_with (first | (go_at_call 23;rw [←HU3.out];refine HST.out.mono ?_;intro e3 w4 h3;unfold Stepped at h3;rw [if_neg HE.out] at h3;obtain ⟨x3,y3,rfl,k1,k2,k3,k4,k5⟩:=h3;have N1:=Lib.hid (H3.out.drew.move k1 k2);have N3:=Lib.hid k3;have N4:=Lib.hid k4;have N5:=Lib.hid k5;clear k1 k2 k3 k4 k5))
      go_roundw
      case rel=>exact ⟨i+1,fk,x3,y3,some (fk,i),by omega,by omega,N1,rfl,.inl ⟨rfl,fk+1,HY,N3,N4,by rw [HWL.out];exact N5,fun q hq=>rfl⟩⟩
      case measure=>rw [HPL.out,N1.out.run.place];simp [isT];omega
  ·cases S with
   | none =>
    obtain ⟨u2,hu2,h2⟩:=J1.out.lay0
    have hb:=J1.out.blk
    have g0:=hb.frozen 0;have g1:=hb.frozen 1;have g2:=hb.frozen 2;have g3:=hb.frozen 3
    have b0:World.cell? _ _=some (Value.int .i64 0):=hb.cell 0;have b1:World.cell? _ _=some (Value.int .i64 0):=hb.cell 1;have b2:World.cell? _ _=some (Value.int .i64 0):=hb.cell 2;have b3:World.cell? _ _=some (Value.int .i64 0):=hb.cell 3
    have HU2:=Lib.hid hu2;have H2:=Lib.hid h2;have HBK:=Lib.hid h2.blk
    clear hb hu2 h2
    go_wp2_with fail
    rw [←HU2.out]
    refine span_ret HBK.out rfl rfl rfl rfl ?_
    exact ⟨_,xr,yr,i,l,rfl,H2.out.run,H2.out.mv,JT.out⟩
   | some q =>
    obtain ⟨s,e⟩:=q
    obtain ⟨u2,hu2,h2⟩:=J1.out.lay s e
    have hb:=J1.out.blk
    have g0:=hb.frozen 0;have g1:=hb.frozen 1;have g2:=hb.frozen 2;have g3:=hb.frozen 3
    have b0:World.cell? _ _=some (Value.int .i64 (s:Int)):=hb.cell 0;have b1:World.cell? _ _=some (Value.int .i64 (e:Int)):=hb.cell 1;have b2:World.cell? _ _=some (Value.int .i64 0):=hb.cell 2;have b3:World.cell? _ _=some (Value.int .i64 0):=hb.cell 3
    have HU2:=Lib.hid hu2;have H2:=Lib.hid h2;have HBK:=Lib.hid h2.blk
    clear hb hu2 h2
    go_wp2_with fail
    rw [←HU2.out]
    refine span_ret HBK.out rfl rfl rfl rfl ?_
    exact ⟨_,xr,yr,i,l,rfl,H2.out.run,H2.out.mv,JT.out⟩
end Go.Proofs.YtegdbmbenjnacaaGreat.Pike
namespace Go.Proofs.YtegdbmbenjnacaaGreat.Pike
open Go.RowKit Mem Sparse
open Prg (Ins ints mem_ints mayP nxt nexts nexts_iff nxt_lt Rch)
open Sset (Tx ArgT Has3 hasS)
open Syn (Nd NV nvs rd_nv nv_form Means ArgN)
set_option maxRecDepth 100000
def sps (l:List (Nat × Nat)):List Value:=l.flatMap fun q=>[.int .i64 (q.1:Int),.int .i64 (q.2:Int),.int .i64 0,.int .i64 0]
theorem sps_len:∀l:List (Nat × Nat),(sps l).length=l.length*4
 | []=>rfl
 | q :: l=>by
  show (_ :: _ :: _ :: _ :: sps l).length=_
  simp only [List.length_cons,sps_len l];omega
theorem sps_app (a b:List (Nat × Nat)):sps (a++b)=sps a++sps b:=by unfold sps;rw [List.flatMap_append]
theorem infoSpan:(Tryz.prog.info? 52).map (fun i=>(i.zero,i.size,i.bytes))=some (some (.agg #[.int .i64 0,.int .i64 0,.int .i64 0,.int .i64 0]),4,32):=by kernel_rfl
theorem sp_ones (s e:Nat):∀u∈[Value.int .i64 (s:Int),.int .i64 (e:Int),.int .i64 0,.int .i64 0],u.oneCell'=true:=by
 intro u hu
 simp only [List.mem_cons,List.not_mem_nil,or_false] at hu
 rcases hu with rfl | rfl | rfl | rfl <;> rfl
def AllT (w:World) (p:List Ins) (W:List Tx) (e:Ending) (w':World):Prop :=
 if mayP p=true then ∃v,e=.returned (.tuple #[v,.int .i64 0])∧w'.ownsRow w.heap.size 52 4 v (allF p W 0).length (sps (allF p W 0))∧Below w.heap.size w w'
 else e=.returned (.tuple #[.slice none 0 0,.int .i64 1])∧Below w.heap.size w w'
structure Al (w wr:World) (rb:Nat) (R:Rv) (pl lt:Nat) (x y:Fr) (v:Value) (D:List (Nat × Nat)):Prop where
 run:Run w wr rb R pl lt x y
 own:wr.ownsRow w.heap.size 52 4 v D.length (sps D)
 ap:∀i,v.ownBlock=some i→¬Rf rb x y i
section
variable {w wr wr':World} {rb pl lt pl' lt':Nat} {R:Rv} {x y x' y':Fr} {v:Value} {D:List (Nat × Nat)}
theorem Al.next (h:Al w wr rb R pl lt x y v D) (hb:Below wr.heap.size wr wr'):Al w wr' rb R pl lt x y v D:=⟨h.run.next hb,own_below h.own hb,h.ap⟩
theorem Al.move (h:Al w wr rb R pl lt x y v D) (k:Run w wr' rb R pl' lt' x' y') (m:Mv wr wr' (Rf rb x y) (Rf rb x' y')):Al w wr' rb R pl' lt' x' y' v D :=
 ⟨k,own_keep h.own m.chg h.ap,fun i hi hf=>h.ap i hi (m.new i (h.own.lt i hi).2 hf)⟩
theorem Al.put (h:Al w wr rb R pl lt x y v D) {n s e:Nat} {v':Value} (hn:D.length=n) (ho:wr'.ownsRow w.heap.size 52 4 v' (n+1) (sps D++[.int .i64 (s:Int),.int .i64 (e:Int),.int .i64 0,.int .i64 0])) (hg:wr.grownBy wr' v.ownBlock) (ha:v'.ownBlock=v.ownBlock∨v'.ownBlock=some wr.heap.size) :
  Al w wr' rb R pl lt x y v' (D++[(s,e)]):=by
 subst hn
 have hc:Chg wr wr' (fun i=>v.ownBlock=some i):=(Chg.refl wr _).grown hg fun i _ e=>e
 have hf:∀i,Rf rb x y i→¬v.ownBlock=some i:=fun i hi e=>h.ap i e hi
 refine ⟨⟨blk_keep h.run.blk hc (hf _ (.inl rfl)),h.run.now.keep hc fun i hi=>hf i (.inr (.inl hi)),h.run.old.keep hc fun i hi=>hf i (.inr (.inr hi)),h.run.dj,h.run.nx,h.run.ny,h.run.le,h.run.bel.trans (hc.below h.run.bel.size fun i hi e=>by have:=(h.own.lt i e).1;omega)⟩,?_,fun i hi hr=>?_⟩
 ·rw [List.length_append,sps_app];exact ho
 ·rcases ha with ha | ha
  ·rw [ha] at hi;exact h.ap i hi hr
  ·rw [ha] at hi;injection hi with hi;have:=(h.run.hers hr).2;omega
end
set_option maxHeartbeats 16000000 in
theorem all_any (A U:Option Addr) (n c m d:Nat) {V:List NV} {p:List Ins} {W:List Tx} (w:World) (hA:ArgN w A n V p) (hW:ArgT w U m W) :
  Calls Tryz.prog 14 #[.slice A n c,.slice U m d] w (AllT w p W):=by
 obtain ⟨i0,hi,hz0,hz1,hz2⟩:=info_parts infoSpan
 have HB:=Lib.hid (begun_any A U n c m d true true 0 w hA hW)
 have hwl:=hW.len
 have hm63:m≤1073741824:=hW.sm
 by_cases hc:mayP p=true
 ·have HS:=Lib.hid (show Src w ⟨A,n,c,U,m,d,true,true⟩ V p W from ⟨hA,hW,hc⟩)
  have HWL:=Lib.hid hwl
  have HC:=Lib.hid hc
  have HC2:=Lib.hid (show mayP p=true∧0≤(0:Int)∧(0:Int)≤((⟨A,n,c,U,m,d,true,true⟩:Rv).m:Int) from ⟨hc,by omega,by dsimp only;omega⟩)
  clear hA hW hwl hc
  go_enter Tryz.func14,Tryz.ntmps14
  go_wp2_with (go_at_call 22;refine HB.out.mono ?_;intro e1 w1 hb;unfold Begun at hb;rw [if_pos HC2.out] at hb;obtain ⟨rb,x,y,rfl,k1,k2,k3⟩:=hb;have K1:=Lib.hid k1;clear k1 k2 k3)
  go_loopw [8,9] (fun v fv wr=>∃(a pl lt:Nat) (xr yr:Fr) (D:List (Nat × Nat)),a≤m+1∧fv=.int .i64 (a:Int)∧D.length≤a∧Hid (Al w wr rb ⟨A,n,c,U,m,d,true,true⟩ pl lt xr yr v D)∧Hid (D++allF p W a=allF p W 0)) (fun _ fv _=>m+1 - (intOf fv).toNat)
  case atStart=>exact ⟨0,_,_,x,y,[],by omega,rfl,Nat.le_refl _,Lib.hid ⟨K1.out,World.ownsRow_nil _ _ _ _,fun i hi=>by cases hi⟩,Lib.hid rfl⟩
  case round =>
   obtain ⟨a,pl,lt,xr,yr,D,ha,rfl,hD,J1,J2⟩:=hrel
   clear K1
   have hown:=J1.out.own
   obtain ⟨dn,hdn⟩:∃n,D.length=n:=⟨_,rfl⟩
   have HDN:=Lib.hid hdn
   rw [hdn] at hown hD
   obtain ⟨Av,cv,rfl,_,_,_⟩:=own_form hown
   have HO:=Lib.hid hown
   clear hown hdn
   by_cases hle:a≤m
   ·have HSP:=Lib.hid (span_any a J1.out.run HS.out hle)
    have hle2:(a:Int)≤(m:Int):=by omega
    have dle:decide ((a:Int)≤(m:Int))=true:=decide_eq_true hle2
    go_upto_region 8 with (first | (go_at_call 32;refine HSP.out.mono ?_;rintro e2 w2 ⟨S,x2,y2,pl2,lt2,rfl,k1,k2,k3⟩;have K1:=Lib.hid (J1.out.move k1 k2);have K3:=Lib.hid k3;clear k1 k2 k3;rcases S with _ | ⟨s,e⟩ <;> dsimp only [spL,Option.isSome]))
    ·have h5:=J2.out
     rw [firstT_none K3.out,List.append_nil] at h5
     have K5:=Lib.hid (K1.out.next ((Below.refl _ _).alloc (Nat.le_refl _) (.cells #[.int .i64 0,.int .i64 0,.int .i64 0,.int .i64 0] 52)))
     have H5:=Lib.hid h5
     clear h5
     go_wp2_with fail
     go_ret2
     unfold AllT
     rw [if_pos HC.out,←H5.out,HDN.out]
     exact ⟨_,rfl,HDN.out ▸ K5.out.own,K5.out.run.bel⟩
    ·have hb2:Below w2.heap.size w2 ((w2.alloc (.cells #[.int .i64 (s:Int),.int .i64 (e:Int),.int .i64 0,.int .i64 0] 52)).alloc (.cells #[.int .i64 (s:Int),.int .i64 (e:Int),.int .i64 0,.int .i64 0] 52)):=((Below.refl _ _).alloc (Nat.le_refl _) _).alloc (by simp) _
     have K5:=Lib.hid (K1.out.next hb2)
     obtain ⟨f1,f2,f3,_⟩:=K3.out
     obtain ⟨e1,e2,_,_⟩:=lastM_some f3
     rw [HWL.out] at f2 e1
     have HFA:=Lib.hid (firstT_all K3.out)
     have hK5s:=Lib.hid (Nat.le_trans K1.out.run.bel.size hb2.size)
     have HBL:=Lib.hid ((Blk.new w2 52 [.int .i64 (s:Int),.int .i64 (e:Int),.int .i64 0,.int .i64 0]).alloc (.cells #[.int .i64 (s:Int),.int .i64 (e:Int),.int .i64 0,.int .i64 0] 52))
     have HNB:=Lib.hid (show some w2.heap.size≠(Value.slice Av dn cv).ownBlock from fun e=>by have:=(K1.out.own.lt _ e.symm).2;omega)
     have ew:IntKind.i64.wrap ((s:Int)+1)=(s:Int)+1:=IntWalk.i64_in _ (by omega)
     have hmx:max (e:Int) ((s:Int)+1)=((max e (s+1):Nat):Int):=by omega
     have hmx2:max e (s+1)≤m+1:=by omega
     have hmx3:a < max e (s+1):=by omega
     generalize hq:max e (s+1)=a2 at hmx hmx2 hmx3 HFA
     clear f3 hb2 hq
     go_wp2_with (at_builtin;refine wpList_append_rd _ rfl (.tmp 32) (.tmp 34) _ rfl w.heap.size 52 i0 _ 4 32 Tryz.underlying34 hi hz0 hz1 hz2 rfl (by decide) (.slice Av dn cv) dn (sps D) rfl (by have:=K5.out.own;rw [HDN.out] at this;exact this) _ (some ⟨w2.heap.size+1,0,none⟩) 1 1 [.int .i64 (s:Int),.int .i64 (e:Int),.int .i64 0,.int .i64 0] rfl rfl (rd_new (w2.alloc (.cells #[.int .i64 (s:Int),.int .i64 (e:Int),.int .i64 0,.int .i64 0] 52)) _ [.int .i64 (s:Int),.int .i64 (e:Int),.int .i64 0,.int .i64 0] _ (by simp)) (sp_ones s e) (by unfold maxLen;omega) (by omega) (hK5s.out) ?_;intro v6 w6 hown6 hgr6 hat6;have K6:=Lib.hid (K5.out.put HDN.out hown6 hgr6 hat6);have bq:=(HBL.out).grown hgr6 HNB.out;have q0:w6.cell? ⟨w2.heap.size,0,none⟩=some (.int .i64 (s:Int)):=bq.cell 0;have q1:w6.cell? ⟨w2.heap.size,1,none⟩=some (.int .i64 (e:Int)):=bq.cell 1;clear hown6 hgr6 hat6 bq)
     go_roundw
     case rel=>exact ⟨a2,pl2,lt2,x2,y2,D++[(s,e)],hmx2,by go_num,by rw [List.length_append,HDN.out];simp;omega,K6,Lib.hid (by rw [List.append_assoc];show D++((s,e) :: allF p W a2)=_;rw [←HFA.out];exact J2.out)⟩
     case measure=>simp [intOf];omega
   ·have h5:=J2.out
    rw [allF_end (by rw [HWL.out];omega),List.append_nil] at h5
    have H5:=Lib.hid h5
    have dle:decide ((a:Int)≤(m:Int))=false:=decide_eq_false (by omega)
    clear h5
    go_wp2_with fail
    go_ret2
    unfold AllT
    rw [if_pos HC.out,←H5.out,HDN.out]
    exact ⟨_,rfl,HDN.out ▸ J1.out.own,J1.out.run.bel⟩
 ·have HC:=Lib.hid hc
  have HC2:=Lib.hid (show ¬(mayP p=true∧0≤(0:Int)∧(0:Int)≤((⟨A,n,c,U,m,d,true,true⟩:Rv).m:Int)) from fun h=>hc h.1)
  clear hA hW hwl hc
  go_enter Tryz.func14,Tryz.ntmps14
  go_wp2_with (go_at_call 22;refine HB.out.mono ?_;intro e1 w1 hb;unfold Begun at hb;rw [if_neg HC2.out] at hb;obtain ⟨rfl,hb⟩:=hb;have HB2:=Lib.hid hb;clear hb)
  go_wp2_with fail
  go_ret2
  unfold AllT
  rw [if_neg HC.out]
  exact ⟨rfl,HB2.out⟩
end Go.Proofs.YtegdbmbenjnacaaGreat.Pike
namespace Go.Proofs.YtegdbmbenjnacaaGreat.Prg
open Go.RowKit
open Mem (Chg own_keep blk_keep own_ne)
open Syn (Nd NV nvs rd_nv nv_form Means ArgN)
set_option maxRecDepth 100000
theorem made_b (n:Nat):madeCells #[Value.bool false] n=(bls (List.replicate n false)).toArray:=by
 rw [show (bls (List.replicate n false))=List.replicate n (Value.bool false) from by simp [bls],←toList_madeCells_one]
structure Mo (w wr:World) (g:Nat) (tv:Value) (m:List Bool) (L:List Nat):Prop where
 blk:Mem.Blk wr g 4 (bls m)
 own:wr.ownsRow w.heap.size 3 1 tv L.length (ns (ints L))
 bel:Below w.heap.size w wr
 ge:w.heap.size≤g
section
variable {w wr w':World} {g:Nat} {tv:Value} {m:List Bool} {L:List Nat}
theorem Mo.size (h:Mo w wr g tv m L):w.heap.size≤wr.heap.size:=h.bel.size
theorem Mo.put (h:Mo w wr g tv m L) (k:Nat) (b:Bool):Mo w (wr.setCell ⟨g,k,none⟩ (.bool b)) g tv (m.set k b) L:=by
 have hc:Chg wr (wr.setCell ⟨g,k,none⟩ (.bool b)) (fun i=>i=g):=(Chg.refl wr _).setCell (p:=⟨g,k,none⟩) _ rfl
 refine ⟨?_,own_keep h.own hc fun i hi e=>own_ne h.own h.blk (by decide) (e ▸ hi),h.bel.trans (hc.below h.bel.size fun i hi e=>by have:=h.ge;omega),h.ge⟩
 rw [←bls_set];exact h.blk.set_ k (.bool b)
theorem Mo.next (h:Mo w wr g tv m L) (hb:Below wr.heap.size wr w'):Mo w w' g tv m L:=⟨h.blk.below hb h.blk.lt,Mem.own_below h.own hb,h.bel.trans (hb.mono h.bel.size),h.ge⟩
theorem Mo.push (h:Mo w wr g tv m L) {wA w6:World} {v6:Value} {j n:Nat} (hb:Below wr.heap.size wr wA) (hn:L.length=n) (ho:w6.ownsRow w.heap.size 3 1 v6 (n+1) (ns (ints L)++[.int .i64 (j:Int)])) (hg:wA.grownBy w6 tv.ownBlock):Mo w w6 g v6 m (L++[j]):=by
 subst hn
 have hA:=h.next hb
 have cr:Chg wA w6 (fun i=>tv.ownBlock=some i):=(Chg.refl wA _).grown hg fun i _ e=>e
 refine ⟨blk_keep hA.blk cr fun e=>own_ne hA.own hA.blk (by decide) e,?_,hA.bel.trans (cr.below hA.bel.size fun i hi e=>by have:=(hA.own.lt i e).1;omega),h.ge⟩
 rw [List.length_append,show ns (ints (L++[j]))=ns (ints L)++[.int .i64 (j:Int)] by unfold ns ints;simp]
 exact ho
end
structure Cp (m0 m:List Bool) (L:List Nat) (k:Nat):Prop where
 len:m.length=m0.length
 on_:∀i,on m i↔i < k∧on m0 i
 td:∀t,t∈L↔t < k∧on m0 t
 few:L.length≤k
theorem Cp.zero (m0:List Bool):Cp m0 (List.replicate m0.length false) [] 0 :=
 ⟨List.length_replicate,fun i=>⟨fun h=>by unfold on at h;rw [List.getElem?_replicate] at h;split at h <;> simp at h,fun h=>absurd h.1 (Nat.not_lt_zero _)⟩,fun t=>⟨fun h=>(by cases h),fun h=>absurd h.1 (Nat.not_lt_zero _)⟩,Nat.le_refl _⟩
theorem Cp.yes {m0 m:List Bool} {L:List Nat} {k:Nat} (h:Cp m0 m L k) (hk:k < m0.length) (ho:m0[k]=true):Cp m0 (m.set k true) (L++[k]) (k+1):=by
 have hk0:on m0 k:=by unfold on;rw [List.getElem?_eq_getElem hk,ho]
 refine ⟨by rw [List.length_set];exact h.len,fun i=>?_,fun t=>?_,by rw [List.length_append];have:=h.few;simp;omega⟩
 ·rw [on_set (by rw [h.len];exact hk),h.on_]
  constructor
  ·rintro (⟨a,b⟩ | rfl)
   ·exact ⟨by omega,b⟩
   ·exact ⟨by omega,hk0⟩
  ·rintro ⟨a,b⟩
   by_cases e:i=k
   ·exact .inr e
   ·exact .inl ⟨by omega,b⟩
 ·rw [List.mem_append,h.td,List.mem_singleton]
  constructor
  ·rintro (⟨a,b⟩ | rfl)
   ·exact ⟨by omega,b⟩
   ·exact ⟨by omega,hk0⟩
  ·rintro ⟨a,b⟩
   by_cases e:t=k
   ·exact .inr e
   ·exact .inl ⟨by omega,b⟩
theorem on_setF {m:List Bool} {k i:Nat} (h:¬on m k):on (m.set k false) i↔on m i:=by
 unfold on at *
 by_cases e:i=k
 ·subst e
  by_cases hl:i < m.length
  ·rw [List.getElem?_set_self hl];simp [h]
  ·rw [List.getElem?_eq_none (by rw [List.length_set];omega)];simp [h]
 ·rw [List.getElem?_set_ne (fun e'=>e e'.symm)]
theorem Cp.no {m0 m:List Bool} {L:List Nat} {k:Nat} (h:Cp m0 m L k) (hk:k < m0.length) (ho:m0[k]=false):Cp m0 (m.set k false) L (k+1):=by
 have hk0:¬on m0 k:=by unfold on;rw [List.getElem?_eq_getElem hk,ho];simp
 have hmk:¬on m k:=fun e=>by have:=((h.on_ k).1 e).1;omega
 refine ⟨by rw [List.length_set];exact h.len,fun i=>?_,fun t=>?_,Nat.le_succ_of_le h.few⟩
 ·rw [on_setF hmk,h.on_]
  exact ⟨fun ⟨a,b⟩=>⟨by omega,b⟩,fun ⟨a,b⟩=>⟨Nat.lt_of_le_of_ne (Nat.le_of_lt_succ a) fun e=>hk0 (e ▸ b),b⟩⟩
 ·rw [h.td]
  exact ⟨fun ⟨a,b⟩=>⟨by omega,b⟩,fun ⟨a,b⟩=>⟨Nat.lt_of_le_of_ne (Nat.le_of_lt_succ a) fun e=>hk0 (e ▸ b),b⟩⟩
theorem Cp.marks {p:List Ins} {b e:Bool} {m0 m:List Bool} {L:List Nat} {k:Nat} (h:Cp m0 m L k) (hk:k=m0.length) (hp:m0.length=p.length):Mk p b e (fun i=>on m0 i) m L:=by
 have h1:∀i,on m i↔on m0 i:=fun i=>(h.on_ i).trans ⟨And.right,fun g=>⟨hk ▸ on_lt g,g⟩⟩
 exact ⟨h.len.trans hp,fun i hi=>.here (hp ▸ on_lt ((h1 i).1 hi)) ((h1 i).1 hi),fun i _ hi=>(h1 i).2 hi,fun t ht=>(h1 t).2 ((h.td t).1 ht).2,fun i j hi hn _=>absurd ((h.td i).2 ⟨hk ▸ on_lt ((h1 i).1 hi),(h1 i).1 hi⟩) hn⟩
theorem snoc_cases (l:List Nat):l=[]∨∃l' a,l=l'++[a]:=by
 by_cases h:l=[]
 ·exact .inl h
 ·exact .inr ⟨l.dropLast,l.getLast h,(List.dropLast_concat_getLast h).symm⟩
def lenOf:Value→Nat
 | .slice _ n _=>n
 | _=>0
def isF (w:World) (g i:Nat):Bool:=match w.cell? ⟨g,i,none⟩ with
 | some (.bool false)=>true
 | _=>false
def offAt (w:World) (g n:Nat):Nat:=(List.range n).countP fun i=>isF w g i
theorem offAt_of {w:World} {g:Nat} {t:TypeId} {m:List Bool} {n:Nat} (h:Mem.Blk w g t (bls m)) (hn:m.length=n):offAt w g n=off m:=by
 subst hn
 have e:(List.range m.length).map (fun i=>m.getD i true)=m:=List.ext_getElem (by simp) fun i h1 h2=>by simp [List.getD,List.getElem?_eq_getElem h2]
 unfold offAt off
 conv=>rhs;rw [←e,List.countP_map]
 refine List.countP_congr fun i hi=>?_
 rw [List.mem_range] at hi
 have:=h.cell i
 rw [bls_get hi] at this
 have hx:isF w g i=!m[i]:=by unfold isF;rw [this];cases m[i] <;> rfl
 rw [hx]
 simp [List.getD,List.getElem?_eq_getElem hi]
theorem own_blk {w:World} {B g n:Nat} {m:List Bool} (h:Mem.Blk w g 4 (bls m)) (hg:B≤g) (hn:m.length=n) (hs:n≤4096):w.ownsRow B 4 1 (.slice (some ⟨g,0,none⟩) n n) n (bls m) :=
 ⟨by rw [bls_len,hn,Nat.mul_one],.inr ⟨g,n,(bls m).toArray,rfl,hg,h,Nat.le_refl _,by unfold maxLen;omega,by simp [bls_len,hn],by rw [List.take_of_length_le (by simp [bls_len,hn])]⟩⟩
theorem arg_ins {w:World} {A:Option Addr} {n:Nat} {V:List NV} {p:List Ins} (h:ArgN w A n V p) {a:Nat} (ha:a < n) (hm:mayP p=true):∃b o i,A=some ⟨b,o,none⟩∧p[a]? = some i∧okP n i=true∧w.cell? ⟨b,o+a*6,none⟩=some (.int .i64 i.kind)∧w.cell? ⟨b,o+a*6+2+2,none⟩=some (.int .i64 i.mn)∧w.cell? ⟨b,o+a*6+5,none⟩=some (.int .i64 i.mx):=by
 have ha2:a < p.length:=by rw [h.len2];exact ha
 have hav:a < V.length:=by rw [h.len];exact ha
 have hm2:=h.means a hav ha2
 obtain ⟨b,o,hA,hbl⟩:=nv_form h.rd (by omega)
 have hrd:=h.rd
 rw [hA] at hrd
 obtain ⟨d0,_,_,_,d4,d5⟩:=rd_nv hrd hav
 rw [hm2.k] at d0;rw [hm2.mn] at d4;rw [hm2.mx] at d5
 exact ⟨b,o,p[a],hA,List.getElem?_eq_getElem ha2,h.len2 ▸ may_at hm ha2,d0,d4,d5⟩
theorem Mo.front {w wr:World} {g t q z ct:Nat} {m:List Bool} {L:List Nat} {cc:Nat} (h:Mo w wr g (.slice (some ⟨t,0,none⟩) z ct) m (L++[cc])) (ho:wr.ownsRow w.heap.size 3 1 (.slice (some ⟨t,0,none⟩) q ct) q ((ns (ints (L++[cc]))).take (q*1))) (hq:L.length=q):Mo w wr g (.slice (some ⟨t,0,none⟩) q ct) m L:=by
 refine ⟨h.blk,?_,h.bel,h.ge⟩
 subst hq
 rw [Nat.mul_one,ns_take] at ho
 rwa [show (ints (L++[cc])).take L.length=ints L by unfold ints;rw [List.map_append,List.take_left' (List.length_map _)]] at ho
def Marked (w:World) (p:List Ins) (b e:Bool) (m0:List Bool) (n:Nat) (en:Ending) (w':World):Prop :=
 ∃v m,en=.returned v∧w'.ownsRow w.heap.size 4 1 v n (bls m)∧m.length=n∧(∀i,on m i↔Rch p b e (fun k=>on m0 k) i)∧Below w.heap.size w w'
set_option maxHeartbeats 4000000 in
theorem rmark_any {A I:Option Addr} {V:List NV} {p:List Ins} {m0:List Bool} {n c d:Nat} {w:World} (hA:ArgN w A n V p) (hm:mayP p=true) (hI:Utf.Rd w w.heap.size I (bls m0)) (hl:m0.length=n) (b e:Bool) :
  Calls Tryz.prog 58 #[.slice A n c,.slice I n d,.bool b,.bool e] w (Marked w p b e m0 n):=by
 obtain ⟨h1,h2,_⟩:=may_last hm
 obtain ⟨ib,jb0,jb1,jb2,jb3⟩:=info_parts infoBool
 obtain ⟨ii,ji0,ji1,ji2,ji3⟩:=info_parts infoInt
 have hn0:0 < n:=by rw [←hA.len2];exact h1
 have hn1:n≤4096:=by rw [←hA.len2];exact h2
 have hmk:(Instr.makeSlice 50 (.int .i64 (n:Int)) (.int .i64 (n:Int))).run Tryz.prog w=.ok (.slice (some ⟨w.heap.size,0,none⟩) n n) (w.alloc (.cells (bls (List.replicate n false)).toArray 4)):=by
  have h:=run_make (P:=Tryz.prog) w 50 4 ib (.bool false) Tryz.underlying50 jb0 jb1 .i64 .i64 n n (by omega) (by omega) (by rw [jb3];omega) (by omega)
  rw [Int.toNat_natCast,jb2,Nat.mul_one] at h
  rw [h]
  show Result.ok _ (w.alloc (.cells (madeCells #[Value.bool false] n) _))=_
  rw [made_b]
 have M0:=Lib.hid (show Mo w (w.alloc (.cells (bls (List.replicate n false)).toArray 4)) w.heap.size (.slice none 0 0) (List.replicate n false) [] from ⟨Mem.Blk.new w _ _,World.ownsRow_nil _ _ _ _,(Below.refl _ _).alloc (Nat.le_refl _) _,Nat.le_refl _⟩)
 have C0:=Lib.hid (show Cp m0 (List.replicate n false) [] 0 by rw [←hl];exact Cp.zero m0)
 have H:=Lib.hid hA;have HM:=Lib.hid hm;have HI:=Lib.hid hI;have HL:=Lib.hid hl
 obtain ⟨ib_,io,rfl,_⟩:=hI.form (by rw [bls_len];omega)
 clear hA hm hI hl h1 h2
 go_enter Tryz.func58,Tryz.ntmps58
 go_wp2_with fail
 go_loopw [10,11] (fun tv iv wr=>∃(k:Nat) (m:List Bool) (L:List Nat),k≤n∧iv=.int .i64 (k:Int)∧Hid (Mo w wr w.heap.size tv m L)∧Hid (Cp m0 m L k)) (fun _ iv _=>n - (intOf iv).toNat)
 case atStart=>exact ⟨0,_,_,Nat.zero_le _,rfl,M0,C0⟩
 case round =>
  obtain ⟨k,m,L,hk,rfl,J1,J2⟩:=hrel
  clear M0 C0
  by_cases hlt:k < n
  ·have hk0:k < m0.length:=by rw [HL.out];exact hlt
   have dv:=rd_b (HI.out.below J1.out.bel) hk0
   have HDV:=Lib.hid (fun (u:World) (h:Below w.heap.size w u)=>(rd_b (HI.out.below h) hk0:u.cell? ⟨ib_,io+k,none⟩=some (.bool m0[k])))
   have HY:=Lib.hid (fun h=>J2.out.yes hk0 h);have HN:=Lib.hid (fun h=>J2.out.no hk0 h)
   obtain ⟨y,gc⟩:∃y,wr.cell? ⟨w.heap.size,k,none⟩=some (.bool y):=by
    have hkm:k < m.length:=by rw [J2.out.len];exact hk0
    have:=J1.out.blk.cell k
    rw [bls_get hkm] at this
    exact ⟨_,this⟩
   have gf:=J1.out.blk.frozen k
   obtain ⟨q,hq⟩:∃q,L.length=q:=⟨_,rfl⟩
   have hqs:q≤4096:=by have:=J2.out.few;omega
   have HQ:=Lib.hid hq
   have hibw:ib_ < w.heap.size:=‹ib_ < w.heap.size›
   clear hq
   generalize m0[k]=x at *
   cases x with
   | true =>
    have M1:=Lib.hid (J1.out.put k true)
    have C1:=Lib.hid (HY.out rfl)
    have dv1:(wr.setCell ⟨w.heap.size,k,none⟩ (.bool true)).cell? ⟨ib_,io+k,none⟩=some (.bool true):=HDV.out _ M1.out.bel
    go_upto_region 7 with fail
    obtain ⟨u,hu⟩:∃u,u=wr.setCell ⟨w.heap.size,k,none⟩ (.bool true):=⟨_,rfl⟩
    rw [←hu] at M1 dv1 ⊢
    clear hu dv gc gf J1 J2 HN HY HDV
    have own1:=M1.out.own
    rw [HQ.out] at own1
    obtain ⟨A3,c3,rfl,_,_,_⟩:=Mem.own_form own1
    have HO:=Lib.hid own1
    have hwu:w.heap.size≤u.heap.size:=M1.out.size
    clear own1
    go_wp2_with (at_builtin;refine Mem.wpList_append_rd _ rfl (.tmp 35) (.tmp 37) _ rfl w.heap.size 3 ii _ 1 8 Tryz.underlying66 ji0 ji1 ji2 ji3 rfl (by decide) (.slice A3 q c3) q (ns (ints L)) rfl (Mem.own_below HO.out ((Below.refl _ _).alloc (Nat.le_refl _) _)) _ (some ⟨u.heap.size,0,none⟩) 1 1 [.int .i64 (k:Int)] rfl rfl (Mem.rd_new u _ [.int .i64 (k:Int)] _ rfl) (by simp [Value.oneCell']) (by unfold maxLen;omega) (by omega) (by simp;omega) ?_;intro v6 w6 hown6 hgr6 hat6;have M6:=Lib.hid (M1.out.push ((Below.refl _ _).alloc (Nat.le_refl _) _) HQ.out hown6 hgr6);clear hown6 hgr6 hat6)
    go_roundw
    case rel=>exact ⟨k+1,_,_,by omega,by go_num,M6,C1⟩
    case measure=>simp [intOf];omega
   | false =>
    have M1:=Lib.hid (J1.out.put k false)
    have C1:=Lib.hid (HN.out rfl)
    have dv1:(wr.setCell ⟨w.heap.size,k,none⟩ (.bool false)).cell? ⟨ib_,io+k,none⟩=some (.bool false):=HDV.out _ M1.out.bel
    go_upto_region 7 with fail
    obtain ⟨u,hu⟩:∃u,u=wr.setCell ⟨w.heap.size,k,none⟩ (.bool false):=⟨_,rfl⟩
    rw [←hu] at M1 dv1 ⊢
    clear hu dv gc gf J1 J2 HN HY HDV
    go_wp2_with fail
    go_roundw
    case rel=>exact ⟨k+1,_,_,by omega,by go_num,M1,C1⟩
    case measure=>simp [intOf];omega
  ·have hkn:k=n:=by omega
   subst hkn
   have MK:=Lib.hid (J2.out.marks (p:=p) (b:=b) (e:=e) HL.out.symm (HL.out.trans H.out.len2.symm))
   have hlq:=J2.out.few
   have hof:off m≤4096:=Nat.le_trans (List.countP_le_length) (by rw [J2.out.len,HL.out];exact hn1)
   clear J2 hmk
   go_wp2_with fail
   go_loopw [10] (fun tv wr=>∃(m:List Bool) (L:List Nat),Hid (Mo w wr w.heap.size tv m L)∧Hid (Mk p b e (fun i=>on m0 i) m L)∧L.length+off m≤8192) (fun tv wr=>lenOf tv+offAt wr w.heap.size k)
   case atStart=>exact ⟨m,L,J1,MK,by omega⟩
   case round =>
    clear J1 MK hlq hof
    obtain ⟨m,L,J1,J2,hT⟩:=hrel
    have hml:m.length=k:=by rw [J2.out.len,H.out.len2]
    rcases snoc_cases L with rfl | ⟨L,cc,rfl⟩
    ·have own1:=J1.out.own
     obtain ⟨A3,c3,rfl,_,_,_⟩:=Mem.own_form own1
     clear own1
     go_wp2_with fail
     go_ret
     exact ⟨_,m,rfl,own_blk J1.out.blk (Nat.le_refl _) hml hn1,hml,J2.out.fin,J1.out.bel⟩
    ·obtain ⟨q,hq⟩:∃q,L.length=q:=⟨_,rfl⟩
     have hTq:q+1+off m≤8192:=by rw [List.length_append,hq] at hT;exact hT
     have own1:=J1.out.own
     rw [List.length_append,hq,List.length_singleton] at own1
     obtain ⟨z,hz⟩:∃z,z=q+1:=⟨_,rfl⟩
     rw [←hz] at own1
     obtain ⟨t,ct,rfl,_,_,_,_⟩:=own_addr own1 (by omega)
     have z1:(z:Int) - 1=(q:Int):=by omega
     have z2:¬(z:Int)=0:=by omega
     have z3:(0:Int) < z:=by omega
     have hcc:on m cc:=J2.out.td cc (List.mem_append_right _ (List.mem_singleton.2 rfl))
     have hcn:cc < k:=hml ▸ on_lt hcc
     have gl:wr.cell? ⟨t,q,none⟩=some (.int .i64 (cc:Int)):=by
      have:=own1.cells (g:=t) rfl q (.int .i64 (cc:Int)) (by unfold ns ints;simp [←hq])
      rwa [show (⟨t,0,none⟩:Addr).add q=⟨t,q,none⟩ by unfold Addr.add;split <;> simp_all] at this
     have K2:=Lib.hid J2.out.pop
     have HT:=Lib.hid hTq
     have HOW:=Lib.hid (own_front own1 (show q≤z by omega))
     have HJ:=Lib.hid (J1.out.front HOW.out hq)
     have HSZ:=Lib.hid J1.out.size
     have hAw:=H.out.next J1.out.bel
     obtain ⟨ab,ao,i,rfl,hget,hok,d0,d4,d5⟩:=arg_ins hAw hcn HM.out
     have HNX:=Lib.hid (fun j=>nexts_iff HM.out (b:=b) (e:=e) (i:=cc) (j:=j))
     have HNV:=Lib.hid (show nexts p b e cc=if i.kind=2 then [i.mn.toNat,i.mx.toNat] else if i.kind=3 then [i.mn.toNat] else if i.kind=4 then (if b then [cc+1] else []) else if i.kind=5 then (if e then [cc+1] else []) else [] by unfold nexts;rw [hget])
     have HLT:=Lib.hid (fun j (h:nxt p b e cc j)=>(show j < k from H.out.len2 ▸ nxt_lt HM.out h))
     have HX2:=Lib.hid (show i.kind=2→∃X Y:Nat,i.mn=X∧i.mx=Y from fun hk=>by
      unfold okP at hok;rw [if_neg (by omega),if_pos hk,decide_eq_true_eq] at hok
      exact ⟨i.mn.toNat,i.mx.toNat,by omega,by omega⟩)
     have HX3:=Lib.hid (show i.kind=3→∃X:Nat,i.mn=X from fun hk=>by
      unfold okP at hok;rw [if_neg (by omega),if_neg (by omega),if_pos hk,decide_eq_true_eq] at hok
      exact ⟨i.mn.toNat,by omega⟩)
     obtain ⟨ik,hik⟩:∃y,y=i.kind:=⟨_,rfl⟩
     obtain ⟨im,him⟩:∃y,y=i.mn:=⟨_,rfl⟩
     obtain ⟨ix,hix⟩:∃y,y=i.mx:=⟨_,rfl⟩
     rw [←hik] at d0 HNV HX2 HX3;rw [←him] at d4 HNV HX2 HX3;rw [←hix] at d5 HNV HX2
     clear hAw hik him hix hget hok hcc own1 hT J2
     go_upto_region 14 with fail
     have HZ:=Lib.hid hz
     clear hz z1 z2 z3
     by_cases k2:ik=2
     ·obtain ⟨X,Y,rfl,rfl⟩:=HX2.out k2
      have c2:(ik == 2)=true:=by simp [k2]
      rw [if_pos k2] at HNV
      rw [Int.toNat_natCast,Int.toNat_natCast] at HNV
      clear k2
      obtain ⟨D,hD⟩:∃D:List Nat,D=[X,Y]:=⟨_,rfl⟩
      have HDX:=Lib.hid (show ∀j,j∈D↔nxt p b e cc j from fun j=>by rw [←HNX.out j,HNV.out,hD])
      have HDN:=Lib.hid (show D.length=2 by rw [hD];rfl)
      obtain ⟨wq,hwq⟩:∃u,u=(wr.alloc (.cells #[.int .i64 (X:Int),.int .i64 (Y:Int)] 3)).drew:=⟨_,rfl⟩
      obtain ⟨h,hh⟩:∃h,h=wr.heap.size:=⟨_,rfl⟩
      have hbq:Below wr.heap.size wr wq:=by rw [hwq];exact ((Below.refl _ _).alloc (Nat.le_refl _) _).drew
      have P1:=Lib.hid (HJ.out.next hbq)
      have P3:=Lib.hid (show Mem.Blk wq h 3 (ns (ints D)) by rw [hwq,hh,hD];exact Mem.Blk.new wr _ _)
      have P4:=Lib.hid (show (Value.slice (some ⟨t,0,none⟩) q ct).ownBlock≠some h from fun e=>by have:=(HJ.out.own.lt h e).2;omega)
      have hgh:=Lib.hid (show w.heap.size < h by rw [hh];exact J1.out.blk.lt)
      have HWQ:=Lib.hid hwq
      have HH:=Lib.hid hh
      clear hD hwq hh hbq
      go_wp2_with fail
      go_region
      go_upto_region 24 with fail
      rw [←HWQ.out,←HH.out]
      go_wp2_with fail
      go_loopw [10,14] (fun tv iv wx=>∃(j:Nat) (m':List Bool) (L':List Nat),j≤2∧iv=.int .i64 (j:Int)∧Hid (Mo w wx w.heap.size tv m' L')∧Hid (Mk2 p b e (fun i=>on m0 i) m' L' cc (D.take j))∧L'.length+off m'≤q+off m∧Hid (Mem.Blk wx h 3 (ns (ints D)))∧Hid (tv.ownBlock≠some h)) (fun _ iv _=>2 - (intOf iv).toNat)
      case atStart=>exact ⟨0,m,L,Nat.zero_le _,rfl,P1,K2,by omega,P3,P4⟩
      case round =>
       obtain ⟨j,m',L',hj,rfl,N1,N2,hT2,N3,N4⟩:=hrel
       clear P1 P3 P4 HWQ HH
       have hml2:m'.length=k:=by rw [N2.out.len,H.out.len2]
       have own2:=N1.out.own
       obtain ⟨q2,hq2⟩:∃y,L'.length=y:=⟨_,rfl⟩
       rw [hq2] at own2 hT2
       have HQ2:=Lib.hid hq2
       obtain ⟨A3,c3,rfl,_,_,_⟩:=Mem.own_form own2
       have HO2:=Lib.hid own2
       clear own2 hq2
       by_cases hlt:j < 2
       ·have hjd:j < D.length:=by rw [HDN.out];exact hlt
        have dj:wr.cell? ⟨h,j,none⟩=some (.int .i64 ((D[j]:Nat):Int)):=by
         have:=N3.out.cell j
         rw [this];simp [ns,ints,List.getElem?_eq_getElem hjd]
        have HTK:=Lib.hid (show D.take (j+1)=D.take j++[D[j]] from List.take_succ_eq_append_getElem hjd)
        have HNY:=Lib.hid ((HDX.out D[j]).1 (List.getElem_mem hjd))
        have hyk:=HLT.out _ HNY.out
        generalize D[j]=y at dj HTK HNY hyk
        clear hjd
        have hym:y < m'.length:=by rw [hml2];exact hyk
        have hyk2:(y:Int) < (k:Int):=by omega
        have gc:wr.cell? ⟨w.heap.size,y,none⟩=some (.bool m'[y]):=by
         have:=N1.out.blk.cell y
         rwa [bls_get hym] at this
        have gf:=N1.out.blk.frozen y
        obtain ⟨x,hx⟩:∃x,x=m'[y]:=⟨_,rfl⟩
        rw [←hx] at gc
        cases x with
        | true =>
         have C1:=Lib.hid (N2.out.old (j:=y) (by unfold on;rw [List.getElem?_eq_getElem hym,←hx]))
         clear hx
         go_wp2_with fail
         go_roundw
         case rel=>exact ⟨j+1,m',L',by omega,by go_num,N1,by rw [HTK.out];exact C1,by have:=HQ2.out;omega,N3,N4⟩
         case measure=>simp [intOf];omega
        | false =>
         have C1:=Lib.hid (N2.out.new hym HNY.out)
         have hof:=off_set (m:=m') (j:=y) (by rw [List.getElem?_eq_getElem hym,←hx])
         have M1:=Lib.hid (N1.out.put y true)
         have X1:=Lib.hid (show Mem.Blk (wr.setCell ⟨w.heap.size,y,none⟩ (.bool true)) h 3 (ns (ints D)) from blk_keep N3.out ((Chg.refl wr (fun i=>i=w.heap.size)).setCell (p:=⟨w.heap.size,y,none⟩) _ rfl) (by have:=hgh.out;omega))
         have dj1:(wr.setCell ⟨w.heap.size,y,none⟩ (.bool true)).cell? ⟨h,j,none⟩=some (.int .i64 (y:Int)):=by rw [X1.out.cell,←N3.out.cell];exact dj
         clear hx
         go_upto_region 29 with fail
         obtain ⟨u,hu⟩:∃u,u=wr.setCell ⟨w.heap.size,y,none⟩ (.bool true):=⟨_,rfl⟩
         rw [←hu] at M1 X1 dj1 ⊢
         have hwu:w.heap.size≤u.heap.size:=M1.out.size
         have HO3:=M1.out.own
         rw [HQ2.out] at HO3
         have HO3:=Lib.hid HO3
         have hxl:=X1.out.lt
         clear hu dj gc gf N1 N2 N3 HO2
         go_wp2_with (at_builtin;refine Mem.wpList_append_rd _ rfl (.tmp 111) (.tmp 116) _ rfl w.heap.size 3 ii _ 1 8 Tryz.underlying66 ji0 ji1 ji2 ji3 rfl (by decide) (.slice A3 q2 c3) q2 (ns (ints L')) rfl (Mem.own_below HO3.out ((Below.refl _ _).alloc (Nat.le_refl _) _)) _ (some ⟨u.heap.size,0,none⟩) 1 1 [.int .i64 (y:Int)] rfl rfl (Mem.rd_new u _ [.int .i64 (y:Int)] _ rfl) (by simp [Value.oneCell']) (by unfold maxLen;omega) (by omega) (by simp;omega) ?_;intro v6 w6 hown6 hgr6 hat6;have M6:=Lib.hid (M1.out.push ((Below.refl _ _).alloc (Nat.le_refl _) _) HQ2.out hown6 hgr6);have X6:=Lib.hid (blk_keep (X1.out.alloc _) ((Chg.refl _ (fun i=>(Value.slice A3 q2 c3).ownBlock=some i)).grown hgr6 fun i _ e=>e) N4.out);have N6:=Lib.hid (show v6.ownBlock≠some h from fun e=>by rcases hat6 with h6 | h6;exact N4.out (h6 ▸ e);rw [h6] at e;injection e with e;simp at e;omega);clear hown6 hgr6 hat6)
         go_roundw
         case rel=>exact ⟨j+1,_,_,by omega,by go_num,M6,by rw [HTK.out];exact C1,by rw [List.length_append,HQ2.out,List.length_singleton];omega,X6,N6⟩
         case measure=>simp [intOf];omega
       ·have HD:=Lib.hid (N2.out.all fun j' hj'=>by have:=(HDX.out j').2 hj';rwa [List.take_of_length_le (by rw [HDN.out];omega)])
        go_wp2_with fail
        go_roundw
        case rel=>exact ⟨m',L',N1,HD,by have:=HQ2.out;omega⟩
        case measure=>rw [offAt_of N1.out.blk hml2,offAt_of J1.out.blk hml];simp [lenOf];have:=HQ2.out;have:=HZ.out;omega
     ·by_cases k3:ik=3
      ·obtain ⟨X,rfl⟩:=HX3.out k3
       have c2:(ik == 2)=false:=beq_eq_false_iff_ne.2 k2
       have c3:(ik == 3)=true:=by simp [k3]
       rw [if_neg k2,if_pos k3] at HNV
       rw [Int.toNat_natCast] at HNV
       clear k2 k3
       obtain ⟨D,hD⟩:∃D:List Nat,D=[X]:=⟨_,rfl⟩
       have HDX:=Lib.hid (show ∀j,j∈D↔nxt p b e cc j from fun j=>by rw [←HNX.out j,HNV.out,hD])
       have HDN:=Lib.hid (show D.length=1 by rw [hD];rfl)
       obtain ⟨wq,hwq⟩:∃u,u=(wr.alloc (.cells #[.int .i64 (X:Int)] 3)):=⟨_,rfl⟩
       obtain ⟨h,hh⟩:∃h,h=wr.heap.size:=⟨_,rfl⟩
       have hbq:Below wr.heap.size wr wq:=by rw [hwq];exact ((Below.refl _ _).alloc (Nat.le_refl _) _)
       have P1:=Lib.hid (HJ.out.next hbq)
       have P3:=Lib.hid (show Mem.Blk wq h 3 (ns (ints D)) by rw [hwq,hh,hD];exact Mem.Blk.new wr _ _)
       have P4:=Lib.hid (show (Value.slice (some ⟨t,0,none⟩) q ct).ownBlock≠some h from fun e=>by have:=(HJ.out.own.lt h e).2;omega)
       have hgh:=Lib.hid (show w.heap.size < h by rw [hh];exact J1.out.blk.lt)
       have HWQ:=Lib.hid hwq
       have HH:=Lib.hid hh
       clear hD hwq hh hbq
       go_upto_region 24 with fail
       rw [←HWQ.out,←HH.out]
       go_wp2_with fail
       go_loopw [10,14] (fun tv iv wx=>∃(j:Nat) (m':List Bool) (L':List Nat),j≤1∧iv=.int .i64 (j:Int)∧Hid (Mo w wx w.heap.size tv m' L')∧Hid (Mk2 p b e (fun i=>on m0 i) m' L' cc (D.take j))∧L'.length+off m'≤q+off m∧Hid (Mem.Blk wx h 3 (ns (ints D)))∧Hid (tv.ownBlock≠some h)) (fun _ iv _=>1 - (intOf iv).toNat)
       case atStart=>exact ⟨0,m,L,Nat.zero_le _,rfl,P1,K2,by omega,P3,P4⟩
       case round =>
        obtain ⟨j,m',L',hj,rfl,N1,N2,hT2,N3,N4⟩:=hrel
        clear P1 P3 P4 HWQ HH
        have hml2:m'.length=k:=by rw [N2.out.len,H.out.len2]
        have own2:=N1.out.own
        obtain ⟨q2,hq2⟩:∃y,L'.length=y:=⟨_,rfl⟩
        rw [hq2] at own2 hT2
        have HQ2:=Lib.hid hq2
        obtain ⟨A3,c3,rfl,_,_,_⟩:=Mem.own_form own2
        have HO2:=Lib.hid own2
        clear own2 hq2
        by_cases hlt:j < 1
        ·have hjd:j < D.length:=by rw [HDN.out];exact hlt
         have dj:wr.cell? ⟨h,j,none⟩=some (.int .i64 ((D[j]:Nat):Int)):=by
          have:=N3.out.cell j
          rw [this];simp [ns,ints,List.getElem?_eq_getElem hjd]
         have HTK:=Lib.hid (show D.take (j+1)=D.take j++[D[j]] from List.take_succ_eq_append_getElem hjd)
         have HNY:=Lib.hid ((HDX.out D[j]).1 (List.getElem_mem hjd))
         have hyk:=HLT.out _ HNY.out
         generalize D[j]=y at dj HTK HNY hyk
         clear hjd
         have hym:y < m'.length:=by rw [hml2];exact hyk
         have hyk2:(y:Int) < (k:Int):=by omega
         have gc:wr.cell? ⟨w.heap.size,y,none⟩=some (.bool m'[y]):=by
          have:=N1.out.blk.cell y
          rwa [bls_get hym] at this
         have gf:=N1.out.blk.frozen y
         obtain ⟨x,hx⟩:∃x,x=m'[y]:=⟨_,rfl⟩
         rw [←hx] at gc
         cases x with
         | true =>
          have C1:=Lib.hid (N2.out.old (j:=y) (by unfold on;rw [List.getElem?_eq_getElem hym,←hx]))
          clear hx
          go_wp2_with fail
          go_roundw
          case rel=>exact ⟨j+1,m',L',by omega,by go_num,N1,by rw [HTK.out];exact C1,by have:=HQ2.out;omega,N3,N4⟩
          case measure=>simp [intOf];omega
         | false =>
          have C1:=Lib.hid (N2.out.new hym HNY.out)
          have hof:=off_set (m:=m') (j:=y) (by rw [List.getElem?_eq_getElem hym,←hx])
          have M1:=Lib.hid (N1.out.put y true)
          have X1:=Lib.hid (show Mem.Blk (wr.setCell ⟨w.heap.size,y,none⟩ (.bool true)) h 3 (ns (ints D)) from blk_keep N3.out ((Chg.refl wr (fun i=>i=w.heap.size)).setCell (p:=⟨w.heap.size,y,none⟩) _ rfl) (by have:=hgh.out;omega))
          have dj1:(wr.setCell ⟨w.heap.size,y,none⟩ (.bool true)).cell? ⟨h,j,none⟩=some (.int .i64 (y:Int)):=by rw [X1.out.cell,←N3.out.cell];exact dj
          clear hx
          go_upto_region 29 with fail
          obtain ⟨u,hu⟩:∃u,u=wr.setCell ⟨w.heap.size,y,none⟩ (.bool true):=⟨_,rfl⟩
          rw [←hu] at M1 X1 dj1 ⊢
          have hwu:w.heap.size≤u.heap.size:=M1.out.size
          have HO3:=M1.out.own
          rw [HQ2.out] at HO3
          have HO3:=Lib.hid HO3
          have hxl:=X1.out.lt
          clear hu dj gc gf N1 N2 N3 HO2
          go_wp2_with (at_builtin;refine Mem.wpList_append_rd _ rfl (.tmp 111) (.tmp 116) _ rfl w.heap.size 3 ii _ 1 8 Tryz.underlying66 ji0 ji1 ji2 ji3 rfl (by decide) (.slice A3 q2 c3) q2 (ns (ints L')) rfl (Mem.own_below HO3.out ((Below.refl _ _).alloc (Nat.le_refl _) _)) _ (some ⟨u.heap.size,0,none⟩) 1 1 [.int .i64 (y:Int)] rfl rfl (Mem.rd_new u _ [.int .i64 (y:Int)] _ rfl) (by simp [Value.oneCell']) (by unfold maxLen;omega) (by omega) (by simp;omega) ?_;intro v6 w6 hown6 hgr6 hat6;have M6:=Lib.hid (M1.out.push ((Below.refl _ _).alloc (Nat.le_refl _) _) HQ2.out hown6 hgr6);have X6:=Lib.hid (blk_keep (X1.out.alloc _) ((Chg.refl _ (fun i=>(Value.slice A3 q2 c3).ownBlock=some i)).grown hgr6 fun i _ e=>e) N4.out);have N6:=Lib.hid (show v6.ownBlock≠some h from fun e=>by rcases hat6 with h6 | h6;exact N4.out (h6 ▸ e);rw [h6] at e;injection e with e;simp at e;omega);clear hown6 hgr6 hat6)
          go_roundw
          case rel=>exact ⟨j+1,_,_,by omega,by go_num,M6,by rw [HTK.out];exact C1,by rw [List.length_append,HQ2.out,List.length_singleton];omega,X6,N6⟩
          case measure=>simp [intOf];omega
        ·have HD:=Lib.hid (N2.out.all fun j' hj'=>by have:=(HDX.out j').2 hj';rwa [List.take_of_length_le (by rw [HDN.out];omega)])
         go_wp2_with fail
         go_roundw
         case rel=>exact ⟨m',L',N1,HD,by have:=HQ2.out;omega⟩
         case measure=>rw [offAt_of N1.out.blk hml2,offAt_of J1.out.blk hml];simp [lenOf];have:=HQ2.out;have:=HZ.out;omega
      ·by_cases k4:ik=4
       ·have c2:(ik == 2)=false:=beq_eq_false_iff_ne.2 k2
        have c3:(ik == 3)=false:=beq_eq_false_iff_ne.2 k3
        have c4:(ik == 4)=true:=by simp [k4]
        rw [if_neg k2,if_neg k3,if_pos k4] at HNV
        clear k2 k3 k4
        have ew:IntKind.i64.wrap ((cc:Int)+1)=((cc+1:Nat):Int):=IntWalk.i64_in _ (by omega)
        cases b with
        | false =>
         rw [if_neg (by decide)] at HNV
         have HD:=Lib.hid (K2.out.all fun j hj=>by have h1:=(HNX.out j).2 hj;rw [HNV.out] at h1;simp at h1)
         go_wp2_with fail
         go_loopw [10,14] (fun tv iv wx=>tv=.slice (some ⟨t,0,none⟩) q ct∧iv=.int .i64 0∧Hid (wr=wx)) (fun _ _ _=>0)
         case atStart=>exact ⟨rfl,rfl,Lib.hid rfl⟩
         case round =>
          obtain ⟨rfl,rfl,HW⟩:=hrel
          obtain rfl:=HW.out
          go_wp2_with fail
          go_roundw
          case rel=>exact ⟨m,L,HJ,HD,by omega⟩
          case measure=>rw [offAt_of HJ.out.blk hml];simp [lenOf];have:=HZ.out;omega
        | true =>
         rw [if_pos rfl] at HNV
         obtain ⟨D,hD⟩:∃D:List Nat,D=[cc+1]:=⟨_,rfl⟩
         have HDX:=Lib.hid (show ∀j,j∈D↔nxt p true e cc j from fun j=>by rw [←HNX.out j,HNV.out,hD])
         have HDN:=Lib.hid (show D.length=1 by rw [hD];rfl)
         obtain ⟨wq,hwq⟩:∃u,u=(wr.alloc (.cells #[.int .i64 ((cc:Int)+1)] 3)):=⟨_,rfl⟩
         obtain ⟨h,hh⟩:∃h,h=wr.heap.size:=⟨_,rfl⟩
         have hbq:Below wr.heap.size wr wq:=by rw [hwq];exact ((Below.refl _ _).alloc (Nat.le_refl _) _)
         have P1:=Lib.hid (HJ.out.next hbq)
         have P3:=Lib.hid (show Mem.Blk wq h 3 (ns (ints D)) by rw [hwq,hh,hD];exact Mem.Blk.new wr _ _)
         have P4:=Lib.hid (show (Value.slice (some ⟨t,0,none⟩) q ct).ownBlock≠some h from fun e=>by have:=(HJ.out.own.lt h e).2;omega)
         have hgh:=Lib.hid (show w.heap.size < h by rw [hh];exact J1.out.blk.lt)
         have HWQ:=Lib.hid hwq
         have HH:=Lib.hid hh
         clear hD hwq hh hbq
         go_upto_region 24 with fail
         rw [←HWQ.out,←HH.out]
         go_wp2_with fail
         go_loopw [10,14] (fun tv iv wx=>∃(j:Nat) (m':List Bool) (L':List Nat),j≤1∧iv=.int .i64 (j:Int)∧Hid (Mo w wx w.heap.size tv m' L')∧Hid (Mk2 p true e (fun i=>on m0 i) m' L' cc (D.take j))∧L'.length+off m'≤q+off m∧Hid (Mem.Blk wx h 3 (ns (ints D)))∧Hid (tv.ownBlock≠some h)) (fun _ iv _=>1 - (intOf iv).toNat)
         case atStart=>exact ⟨0,m,L,Nat.zero_le _,rfl,P1,K2,by omega,P3,P4⟩
         case round =>
          obtain ⟨j,m',L',hj,rfl,N1,N2,hT2,N3,N4⟩:=hrel
          clear P1 P3 P4 HWQ HH
          have hml2:m'.length=k:=by rw [N2.out.len,H.out.len2]
          have own2:=N1.out.own
          obtain ⟨q2,hq2⟩:∃y,L'.length=y:=⟨_,rfl⟩
          rw [hq2] at own2 hT2
          have HQ2:=Lib.hid hq2
          obtain ⟨A3,c3,rfl,_,_,_⟩:=Mem.own_form own2
          have HO2:=Lib.hid own2
          clear own2 hq2
          by_cases hlt:j < 1
          ·have hjd:j < D.length:=by rw [HDN.out];exact hlt
           have dj:wr.cell? ⟨h,j,none⟩=some (.int .i64 ((D[j]:Nat):Int)):=by
            have:=N3.out.cell j
            rw [this];simp [ns,ints,List.getElem?_eq_getElem hjd]
           have HTK:=Lib.hid (show D.take (j+1)=D.take j++[D[j]] from List.take_succ_eq_append_getElem hjd)
           have HNY:=Lib.hid ((HDX.out D[j]).1 (List.getElem_mem hjd))
           have hyk:=HLT.out _ HNY.out
           generalize D[j]=y at dj HTK HNY hyk
           clear hjd
           have hym:y < m'.length:=by rw [hml2];exact hyk
           have hyk2:(y:Int) < (k:Int):=by omega
           have gc:wr.cell? ⟨w.heap.size,y,none⟩=some (.bool m'[y]):=by
            have:=N1.out.blk.cell y
            rwa [bls_get hym] at this
           have gf:=N1.out.blk.frozen y
           obtain ⟨x,hx⟩:∃x,x=m'[y]:=⟨_,rfl⟩
           rw [←hx] at gc
           cases x with
           | true =>
            have C1:=Lib.hid (N2.out.old (j:=y) (by unfold on;rw [List.getElem?_eq_getElem hym,←hx]))
            clear hx
            go_wp2_with fail
            go_roundw
            case rel=>exact ⟨j+1,m',L',by omega,by go_num,N1,by rw [HTK.out];exact C1,by have:=HQ2.out;omega,N3,N4⟩
            case measure=>simp [intOf];omega
           | false =>
            have C1:=Lib.hid (N2.out.new hym HNY.out)
            have hof:=off_set (m:=m') (j:=y) (by rw [List.getElem?_eq_getElem hym,←hx])
            have M1:=Lib.hid (N1.out.put y true)
            have X1:=Lib.hid (show Mem.Blk (wr.setCell ⟨w.heap.size,y,none⟩ (.bool true)) h 3 (ns (ints D)) from blk_keep N3.out ((Chg.refl wr (fun i=>i=w.heap.size)).setCell (p:=⟨w.heap.size,y,none⟩) _ rfl) (by have:=hgh.out;omega))
            have dj1:(wr.setCell ⟨w.heap.size,y,none⟩ (.bool true)).cell? ⟨h,j,none⟩=some (.int .i64 (y:Int)):=by rw [X1.out.cell,←N3.out.cell];exact dj
            clear hx
            go_upto_region 29 with fail
            obtain ⟨u,hu⟩:∃u,u=wr.setCell ⟨w.heap.size,y,none⟩ (.bool true):=⟨_,rfl⟩
            rw [←hu] at M1 X1 dj1 ⊢
            have hwu:w.heap.size≤u.heap.size:=M1.out.size
            have HO3:=M1.out.own
            rw [HQ2.out] at HO3
            have HO3:=Lib.hid HO3
            have hxl:=X1.out.lt
            clear hu dj gc gf N1 N2 N3 HO2
            go_wp2_with (at_builtin;refine Mem.wpList_append_rd _ rfl (.tmp 111) (.tmp 116) _ rfl w.heap.size 3 ii _ 1 8 Tryz.underlying66 ji0 ji1 ji2 ji3 rfl (by decide) (.slice A3 q2 c3) q2 (ns (ints L')) rfl (Mem.own_below HO3.out ((Below.refl _ _).alloc (Nat.le_refl _) _)) _ (some ⟨u.heap.size,0,none⟩) 1 1 [.int .i64 (y:Int)] rfl rfl (Mem.rd_new u _ [.int .i64 (y:Int)] _ rfl) (by simp [Value.oneCell']) (by unfold maxLen;omega) (by omega) (by simp;omega) ?_;intro v6 w6 hown6 hgr6 hat6;have M6:=Lib.hid (M1.out.push ((Below.refl _ _).alloc (Nat.le_refl _) _) HQ2.out hown6 hgr6);have X6:=Lib.hid (blk_keep (X1.out.alloc _) ((Chg.refl _ (fun i=>(Value.slice A3 q2 c3).ownBlock=some i)).grown hgr6 fun i _ e=>e) N4.out);have N6:=Lib.hid (show v6.ownBlock≠some h from fun e=>by rcases hat6 with h6 | h6;exact N4.out (h6 ▸ e);rw [h6] at e;injection e with e;simp at e;omega);clear hown6 hgr6 hat6)
            go_roundw
            case rel=>exact ⟨j+1,_,_,by omega,by go_num,M6,by rw [HTK.out];exact C1,by rw [List.length_append,HQ2.out,List.length_singleton];omega,X6,N6⟩
            case measure=>simp [intOf];omega
          ·have HD:=Lib.hid (N2.out.all fun j' hj'=>by have:=(HDX.out j').2 hj';rwa [List.take_of_length_le (by rw [HDN.out];omega)])
           go_wp2_with fail
           go_roundw
           case rel=>exact ⟨m',L',N1,HD,by have:=HQ2.out;omega⟩
           case measure=>rw [offAt_of N1.out.blk hml2,offAt_of J1.out.blk hml];simp [lenOf];have:=HQ2.out;have:=HZ.out;omega
       ·by_cases k5:ik=5
        ·have c2:(ik == 2)=false:=beq_eq_false_iff_ne.2 k2
         have c3:(ik == 3)=false:=beq_eq_false_iff_ne.2 k3
         have c4:(ik == 4)=false:=beq_eq_false_iff_ne.2 k4
         have c5:(ik == 5)=true:=by simp [k5]
         rw [if_neg k2,if_neg k3,if_neg k4,if_pos k5] at HNV
         clear k2 k3 k4 k5
         have ew:IntKind.i64.wrap ((cc:Int)+1)=((cc+1:Nat):Int):=IntWalk.i64_in _ (by omega)
         cases e with
         | false =>
          rw [if_neg (by decide)] at HNV
          have HD:=Lib.hid (K2.out.all fun j hj=>by have h1:=(HNX.out j).2 hj;rw [HNV.out] at h1;simp at h1)
          go_wp2_with fail
          go_loopw [10,14] (fun tv iv wx=>tv=.slice (some ⟨t,0,none⟩) q ct∧iv=.int .i64 0∧Hid (wr=wx)) (fun _ _ _=>0)
          case atStart=>exact ⟨rfl,rfl,Lib.hid rfl⟩
          case round =>
           obtain ⟨rfl,rfl,HW⟩:=hrel
           obtain rfl:=HW.out
           go_wp2_with fail
           go_roundw
           case rel=>exact ⟨m,L,HJ,HD,by omega⟩
           case measure=>rw [offAt_of HJ.out.blk hml];simp [lenOf];have:=HZ.out;omega
         | true =>
          rw [if_pos rfl] at HNV
          obtain ⟨D,hD⟩:∃D:List Nat,D=[cc+1]:=⟨_,rfl⟩
          have HDX:=Lib.hid (show ∀j,j∈D↔nxt p b true cc j from fun j=>by rw [←HNX.out j,HNV.out,hD])
          have HDN:=Lib.hid (show D.length=1 by rw [hD];rfl)
          obtain ⟨wq,hwq⟩:∃u,u=(wr.alloc (.cells #[.int .i64 ((cc:Int)+1)] 3)):=⟨_,rfl⟩
          obtain ⟨h,hh⟩:∃h,h=wr.heap.size:=⟨_,rfl⟩
          have hbq:Below wr.heap.size wr wq:=by rw [hwq];exact ((Below.refl _ _).alloc (Nat.le_refl _) _)
          have P1:=Lib.hid (HJ.out.next hbq)
          have P3:=Lib.hid (show Mem.Blk wq h 3 (ns (ints D)) by rw [hwq,hh,hD];exact Mem.Blk.new wr _ _)
          have P4:=Lib.hid (show (Value.slice (some ⟨t,0,none⟩) q ct).ownBlock≠some h from fun e=>by have:=(HJ.out.own.lt h e).2;omega)
          have hgh:=Lib.hid (show w.heap.size < h by rw [hh];exact J1.out.blk.lt)
          have HWQ:=Lib.hid hwq
          have HH:=Lib.hid hh
          clear hD hwq hh hbq
          go_upto_region 24 with fail
          rw [←HWQ.out,←HH.out]
          go_wp2_with fail
          go_loopw [10,14] (fun tv iv wx=>∃(j:Nat) (m':List Bool) (L':List Nat),j≤1∧iv=.int .i64 (j:Int)∧Hid (Mo w wx w.heap.size tv m' L')∧Hid (Mk2 p b true (fun i=>on m0 i) m' L' cc (D.take j))∧L'.length+off m'≤q+off m∧Hid (Mem.Blk wx h 3 (ns (ints D)))∧Hid (tv.ownBlock≠some h)) (fun _ iv _=>1 - (intOf iv).toNat)
          case atStart=>exact ⟨0,m,L,Nat.zero_le _,rfl,P1,K2,by omega,P3,P4⟩
          case round =>
           obtain ⟨j,m',L',hj,rfl,N1,N2,hT2,N3,N4⟩:=hrel
           clear P1 P3 P4 HWQ HH
           have hml2:m'.length=k:=by rw [N2.out.len,H.out.len2]
           have own2:=N1.out.own
           obtain ⟨q2,hq2⟩:∃y,L'.length=y:=⟨_,rfl⟩
           rw [hq2] at own2 hT2
           have HQ2:=Lib.hid hq2
           obtain ⟨A3,c3,rfl,_,_,_⟩:=Mem.own_form own2
           have HO2:=Lib.hid own2
           clear own2 hq2
           by_cases hlt:j < 1
           ·have hjd:j < D.length:=by rw [HDN.out];exact hlt
            have dj:wr.cell? ⟨h,j,none⟩=some (.int .i64 ((D[j]:Nat):Int)):=by
             have:=N3.out.cell j
             rw [this];simp [ns,ints,List.getElem?_eq_getElem hjd]
            have HTK:=Lib.hid (show D.take (j+1)=D.take j++[D[j]] from List.take_succ_eq_append_getElem hjd)
            have HNY:=Lib.hid ((HDX.out D[j]).1 (List.getElem_mem hjd))
            have hyk:=HLT.out _ HNY.out
            generalize D[j]=y at dj HTK HNY hyk
            clear hjd
            have hym:y < m'.length:=by rw [hml2];exact hyk
            have hyk2:(y:Int) < (k:Int):=by omega
            have gc:wr.cell? ⟨w.heap.size,y,none⟩=some (.bool m'[y]):=by
             have:=N1.out.blk.cell y
             rwa [bls_get hym] at this
            have gf:=N1.out.blk.frozen y
            obtain ⟨x,hx⟩:∃x,x=m'[y]:=⟨_,rfl⟩
            rw [←hx] at gc
            cases x with
            | true =>
             have C1:=Lib.hid (N2.out.old (j:=y) (by unfold on;rw [List.getElem?_eq_getElem hym,←hx]))
             clear hx
             go_wp2_with fail
             go_roundw
             case rel=>exact ⟨j+1,m',L',by omega,by go_num,N1,by rw [HTK.out];exact C1,by have:=HQ2.out;omega,N3,N4⟩
             case measure=>simp [intOf];omega
            | false =>
             have C1:=Lib.hid (N2.out.new hym HNY.out)
             have hof:=off_set (m:=m') (j:=y) (by rw [List.getElem?_eq_getElem hym,←hx])
             have M1:=Lib.hid (N1.out.put y true)
             have X1:=Lib.hid (show Mem.Blk (wr.setCell ⟨w.heap.size,y,none⟩ (.bool true)) h 3 (ns (ints D)) from blk_keep N3.out ((Chg.refl wr (fun i=>i=w.heap.size)).setCell (p:=⟨w.heap.size,y,none⟩) _ rfl) (by have:=hgh.out;omega))
             have dj1:(wr.setCell ⟨w.heap.size,y,none⟩ (.bool true)).cell? ⟨h,j,none⟩=some (.int .i64 (y:Int)):=by rw [X1.out.cell,←N3.out.cell];exact dj
             clear hx
             go_upto_region 29 with fail
             obtain ⟨u,hu⟩:∃u,u=wr.setCell ⟨w.heap.size,y,none⟩ (.bool true):=⟨_,rfl⟩
             rw [←hu] at M1 X1 dj1 ⊢
             have hwu:w.heap.size≤u.heap.size:=M1.out.size
             have HO3:=M1.out.own
             rw [HQ2.out] at HO3
             have HO3:=Lib.hid HO3
             have hxl:=X1.out.lt
             clear hu dj gc gf N1 N2 N3 HO2
             go_wp2_with (at_builtin;refine Mem.wpList_append_rd _ rfl (.tmp 111) (.tmp 116) _ rfl w.heap.size 3 ii _ 1 8 Tryz.underlying66 ji0 ji1 ji2 ji3 rfl (by decide) (.slice A3 q2 c3) q2 (ns (ints L')) rfl (Mem.own_below HO3.out ((Below.refl _ _).alloc (Nat.le_refl _) _)) _ (some ⟨u.heap.size,0,none⟩) 1 1 [.int .i64 (y:Int)] rfl rfl (Mem.rd_new u _ [.int .i64 (y:Int)] _ rfl) (by simp [Value.oneCell']) (by unfold maxLen;omega) (by omega) (by simp;omega) ?_;intro v6 w6 hown6 hgr6 hat6;have M6:=Lib.hid (M1.out.push ((Below.refl _ _).alloc (Nat.le_refl _) _) HQ2.out hown6 hgr6);have X6:=Lib.hid (blk_keep (X1.out.alloc _) ((Chg.refl _ (fun i=>(Value.slice A3 q2 c3).ownBlock=some i)).grown hgr6 fun i _ e=>e) N4.out);have N6:=Lib.hid (show v6.ownBlock≠some h from fun e=>by rcases hat6 with h6 | h6;exact N4.out (h6 ▸ e);rw [h6] at e;injection e with e;simp at e;omega);clear hown6 hgr6 hat6)
             go_roundw
             case rel=>exact ⟨j+1,_,_,by omega,by go_num,M6,by rw [HTK.out];exact C1,by rw [List.length_append,HQ2.out,List.length_singleton];omega,X6,N6⟩
             case measure=>simp [intOf];omega
           ·have HD:=Lib.hid (N2.out.all fun j' hj'=>by have:=(HDX.out j').2 hj';rwa [List.take_of_length_le (by rw [HDN.out];omega)])
            go_wp2_with fail
            go_roundw
            case rel=>exact ⟨m',L',N1,HD,by have:=HQ2.out;omega⟩
            case measure=>rw [offAt_of N1.out.blk hml2,offAt_of J1.out.blk hml];simp [lenOf];have:=HQ2.out;have:=HZ.out;omega
        ·have c2:(ik == 2)=false:=beq_eq_false_iff_ne.2 k2
         have c3:(ik == 3)=false:=beq_eq_false_iff_ne.2 k3
         have c4:(ik == 4)=false:=beq_eq_false_iff_ne.2 k4
         have c5:(ik == 5)=false:=beq_eq_false_iff_ne.2 k5
         rw [if_neg k2,if_neg k3,if_neg k4,if_neg k5] at HNV
         clear k2 k3 k4 k5
         have HD:=Lib.hid (K2.out.all fun j hj=>by have h1:=(HNX.out j).2 hj;rw [HNV.out] at h1;simp at h1)
         go_wp2_with fail
         go_loopw [10,14] (fun tv iv wx=>tv=.slice (some ⟨t,0,none⟩) q ct∧iv=.int .i64 0∧Hid (wr=wx)) (fun _ _ _=>0)
         case atStart=>exact ⟨rfl,rfl,Lib.hid rfl⟩
         case round =>
          obtain ⟨rfl,rfl,HW⟩:=hrel
          obtain rfl:=HW.out
          go_wp2_with fail
          go_roundw
          case rel=>exact ⟨m,L,HJ,HD,by omega⟩
          case measure=>rw [offAt_of HJ.out.blk hml];simp [lenOf];have:=HZ.out;omega
end Go.Proofs.YtegdbmbenjnacaaGreat.Prg
namespace Go.Proofs.YtegdbmbenjnacaaGreat.Pike
open Go.RowKit Mem Sparse
open Prg (Ins mayP nxt Rch on off on_set on_lt bls bls_len bls_get bls_set rd_b infoBool made_b Marked rmark_any own_blk)
open Sset (Tx ArgT Has3 hasS)
open Syn (Nd NV nvs rd_nv nv_form Means ArgN)
set_option maxRecDepth 100000
structure Mrk (w:World) (I:Option Addr) (n:Nat) (m:List Bool) (O:Nat→Prop):Prop where
 rd:Utf.Rd w w.heap.size I (bls m)
 len:m.length=n
 iff:∀i,on m i↔O i
theorem arg_cells {w:World} {A:Option Addr} {n:Nat} {V:List NV} {p:List Ins} (h:ArgN w A n V p) {a:Nat} (ha:a < n):∃b o i,A=some ⟨b,o,none⟩∧p[a]? = some i∧w.cell? ⟨b,o+a*6,none⟩=some (.int .i64 i.kind):=by
 have ha2:a < p.length:=by rw [h.len2];exact ha
 have hav:a < V.length:=by rw [h.len];exact ha
 have hm:=h.means a hav ha2
 obtain ⟨b,o,hA,hbl⟩:=nv_form h.rd (by omega)
 have hrd:=h.rd
 rw [hA] at hrd
 obtain ⟨d0,_⟩:=rd_nv hrd hav
 rw [hm.k] at d0
 exact ⟨b,o,p[a],hA,List.getElem?_eq_getElem ha2,d0⟩
theorem on_at {m:List Bool} {k:Nat} (hk:k < m.length):on m k↔m[k]=true:=by unfold on;rw [List.getElem?_eq_getElem hk];simp
set_option maxHeartbeats 4000000 in
theorem rany_any {A I:Option Addr} {V:List NV} {p:List Ins} {m:List Bool} {O:Nat→Prop} {n c d:Nat} {w:World} (hA:ArgN w A n V p) (hI:Mrk w I n m O) (hn:n≤4096) (x y:Int) {r:Bool} (hr:r=true↔Any p O x∨Any p O y) :
  Calls Tryz.prog 30 #[.slice A n c,.slice I n d,.int .i64 x,.int .i64 y] w (Tells w (.bool r)):=by
 have H:=Lib.hid hA;have HI:=Lib.hid hI;have HR:=Lib.hid hr
 clear hA hI hr
 go_enter Tryz.func30,Tryz.ntmps30
 go_wp2
 go_loopw [9] (fun i wr=>∃k:Nat,k≤n∧i=.int .i64 (k:Int)∧Hid (∀j z,j < k→on m j→p[j]? = some z→z.kind≠x∧z.kind≠y)∧Hid (w=wr)) (fun i _=>n - (intOf i).toNat)
 case atStart=>exact ⟨0,Nat.zero_le _,rfl,Lib.hid (fun j z h=>absurd h (Nat.not_lt_zero _)),Lib.hid rfl⟩
 case round =>
  obtain ⟨k,hk,rfl,HT,HW⟩:=hrel
  obtain rfl:=HW.out
  by_cases hlt:k < n
  ·have hkm:k < m.length:=by rw [HI.out.len];exact hlt
   obtain ⟨bi,oi,rfl,_⟩:=HI.out.rd.form (by rw [bls_len];omega)
   have dm:=rd_b HI.out.rd hkm
   obtain ⟨b,o,i,rfl,hget,d0⟩:=arg_cells H.out hlt
   have HG:=Lib.hid hget
   obtain ⟨mk,hmk⟩:∃q,q=m[k]:=⟨_,rfl⟩
   have HON:=Lib.hid (show on m k↔mk=true by rw [hmk];exact on_at hkm)
   rw [←hmk] at dm
   obtain ⟨ik,hik⟩:∃q,q=i.kind:=⟨_,rfl⟩
   rw [←hik] at d0
   have HK:=Lib.hid hik
   have HS:=Lib.hid (show (on m k→ik≠x∧ik≠y)→∀j z,j < k+1→on m j→p[j]? = some z→z.kind≠x∧z.kind≠y from fun hq j z hj ho hz=>by
    rcases Nat.lt_succ_iff_lt_or_eq.1 hj with h1 | rfl
    ·exact HT.out j z h1 ho hz
    ·rw [HG.out] at hz;injection hz with hz;subst hz;rw [←HK.out];exact hq ho)
   clear hkm hget hmk hik
   cases mk with
   | false =>
    have HT2:=Lib.hid (HS.out fun h=>absurd (HON.out.1 h) (by decide))
    go_wp2
    go_roundw
    case rel=>exact ⟨k+1,by omega,by go_num,HT2,by first | exact Lib.hid rfl | exact Lib.hid trivial⟩
    case measure=>simp [intOf];omega
   | true =>
    have HOK:=Lib.hid ((HI.out.iff k).1 (HON.out.2 rfl))
    by_cases e1:ik=x
    ·have HRT:=Lib.hid (HR.out.2 (.inl ⟨k,i,HOK.out,HG.out,HK.out.symm.trans e1⟩))
     have e2:(ik == x)=true:=by simp [e1]
     clear e1
     go_wp2
     go_ret
     exact ⟨ret_bool HRT.out.symm,rfl⟩
    ·by_cases e2:ik=y
     ·have HRT:=Lib.hid (HR.out.2 (.inr ⟨k,i,HOK.out,HG.out,HK.out.symm.trans e2⟩))
      have e3:(ik == x)=false:=beq_eq_false_iff_ne.2 e1
      have e4:(ik == y)=true:=by simp [e2]
      clear e1 e2
      go_wp2
      go_ret
      exact ⟨ret_bool HRT.out.symm,rfl⟩
     ·have HT2:=Lib.hid (HS.out fun _=>⟨e1,e2⟩)
      have e3:(ik == x)=false:=beq_eq_false_iff_ne.2 e1
      have e4:(ik == y)=false:=beq_eq_false_iff_ne.2 e2
      clear e1 e2
      go_wp2
      go_roundw
      case rel=>exact ⟨k+1,by omega,by go_num,HT2,by first | exact Lib.hid rfl | exact Lib.hid trivial⟩
      case measure=>simp [intOf];omega
  ·have HRF:=Lib.hid (show r=false by
    cases r with
    | false=>rfl
    | true =>
     exfalso
     have hin:∀{i},O i→i < k:=fun {i} ho=>by have:=on_lt ((HI.out.iff i).2 ho);rw [HI.out.len] at this;omega
     rcases HR.out.1 rfl with ⟨i,z,h1,h2,h3⟩ | ⟨i,z,h1,h2,h3⟩
     ·exact (HT.out i z (hin h1) ((HI.out.iff i).2 h1) h2).1 h3
     ·exact (HT.out i z (hin h1) ((HI.out.iff i).2 h1) h2).2 h3)
   go_wp2
   go_ret
   exact ⟨ret_bool HRF.out.symm,rfl⟩
def ct (m:List Bool):Nat:=m.countP (· == true)
theorem ct_take {m:List Bool} {k:Nat} (hk:k < m.length):ct (m.take (k+1))=ct (m.take k)+(if m[k]=true then 1 else 0):=by
 unfold ct
 rw [List.take_succ_eq_append_getElem hk,List.countP_append,List.countP_cons,List.countP_nil]
 cases m[k] <;> simp
theorem ct_le (m:List Bool):ct m≤m.length:=List.countP_le_length
theorem ct_cnt {m:List Bool} {O:Nat→Prop} {n:Nat} (hl:m.length=n) (h:∀i,on m i↔O i):ct m=cnt n O:=by
 subst hl
 have e:(List.range m.length).map (fun i=>m.getD i false)=m:=List.ext_getElem (by simp) fun i h1 h2=>by simp [List.getD,List.getElem?_eq_getElem h2]
 unfold ct cnt
 conv=>lhs;rw [←e,List.countP_map]
 rw [←List.countP_eq_length_filter]
 refine List.countP_congr fun i hi=>?_
 rw [List.mem_range] at hi
 have:=(on_at hi).symm.trans (h i)
 simp only [Function.comp,List.getD,List.getElem?_eq_getElem hi,Option.getD_some,beq_iff_eq,decide_eq_true_eq]
 exact this
theorem ct_zero {m:List Bool} (h:ct m=0) (i:Nat):¬on m i:=fun ho=>by
 have hl:=on_lt ho
 have:=List.countP_eq_zero.1 h m[i] (List.getElem_mem hl)
 rw [(on_at hl).1 ho] at this
 exact this rfl
set_option maxHeartbeats 2000000 in
theorem rcount_any {I:Option Addr} {m:List Bool} {n d:Nat} {w:World} {B:Nat} (hI:Utf.Rd w B I (bls m)) (hl:m.length=n) (hn:n≤4096) :
  Calls Tryz.prog 29 #[.slice I n d] w (Tells w (.int .i64 (ct m:Int))):=by
 have HI:=Lib.hid hI;have HL:=Lib.hid hl
 clear hI hl
 go_enter Tryz.func29,Tryz.ntmps29
 go_wp2
 go_loopw [3,4] (fun v i wr=>∃k:Nat,k≤n∧i=.int .i64 (k:Int)∧v=.int .i64 (ct (m.take k):Int)∧Hid (w=wr)) (fun _ i _=>n - (intOf i).toNat)
 case atStart=>exact ⟨0,Nat.zero_le _,rfl,rfl,Lib.hid rfl⟩
 case round =>
  obtain ⟨k,hk,rfl,rfl,HW⟩:=hrel
  obtain rfl:=HW.out
  by_cases hlt:k < n
  ·have hkm:k < m.length:=by rw [HL.out];exact hlt
   obtain ⟨bi,oi,rfl,_⟩:=HI.out.form (by rw [bls_len];omega)
   have dm:=rd_b HI.out hkm
   have hct:=ct_take hkm
   have hcl:ct (m.take k)≤4096:=Nat.le_trans (ct_le _) (by rw [List.length_take];omega)
   generalize hmk:m[k]=mk at *
   generalize hq:ct (m.take k)=q at *
   have HCT:=Lib.hid hct
   clear hmk hq hct hkm
   have ew:IntKind.i64.wrap ((q:Int)+1)=((q+1:Nat):Int):=IntWalk.i64_in _ (by omega)
   cases mk with
   | false =>
    go_wp2
    go_roundw
    case rel=>exact ⟨k+1,by omega,by go_num,by rw [HCT.out];simp,by first | exact Lib.hid rfl | exact Lib.hid trivial⟩
    case measure=>simp [intOf];omega
   | true =>
    go_wp2
    go_roundw
    case rel=>exact ⟨k+1,by omega,by go_num,by rw [HCT.out];simp,by first | exact Lib.hid rfl | exact Lib.hid trivial⟩
    case measure=>simp [intOf];omega
  ·have HT:=Lib.hid (show m.take k=m from List.take_of_length_le (by have:=HL.out;omega))
   rw [HT.out]
   go_wp2
   go_ret
   exact ⟨rfl,rfl⟩
end Go.Proofs.YtegdbmbenjnacaaGreat.Pike
