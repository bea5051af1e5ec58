/-
  Texts of stage 7, part 31.
-/
import Derived.Laws.ResultCell
import Derived.Test.YtegdbmbenjnacaaGreatQ30
namespace Go.Proofs.YtegdbmbenjnacaaGreat.Pike
open Go.RowKit Mem Sparse
open Prg (Ins ints mem_ints mayP nxt nexts nexts_iff nxt_lt Rch)
open Sset (Tx ArgT Has3 hasS)
open Syn (Nd NV nvs rd_nv nv_form Means ArgN)
set_option maxRecDepth 100000
theorem span_ret {w:World} {g:Nat} {v1 v2 v3 v4 x:Value} {fn:Func} {p u:Tmp} {R:Ending→World→Prop} {a:Act} (h:Blk w g 52 [v1,v2,v3,v4]) (hr:fn.results=#[.cell p 52,.tmp u]) (hp:a.tmps.getD p undef=.pointer (some ⟨g,0,none⟩)) (hu:a.tmps.getD u undef=x) (hd:a.defers=[]) (hR:R (.returned (.tuple #[.agg #[v1,v2,v3,v4],x])) w):bodyPost Tryz.prog fn R .ret a w:=by
 refine bodyPost_ret ?_ hd hR
 rw [results_cell_tmp hr,hp,hu]
 simp [asAddr,run_loadVar_row w g 52 52 [v1,v2,v3,v4].toArray (0,0) _ h Tryz.underlying52 rfl (by kernel_rfl),Result.andThen]
def spL:Option (Nat × Nat)→List Value
 | none=>[.int .i64 0,.int .i64 0,.int .i64 0,.int .i64 0]
 | some (s,e)=>[.int .i64 (s:Int),.int .i64 (e:Int),.int .i64 0,.int .i64 0]
def SpanT (w0 w:World) (rb:Nat) (R:Rv) (x y:Fr) (p:List Ins) (W:List Tx) (P:Nat) (e:Ending) (w':World):Prop :=
 ∃S x' y' pl' lt',e=.returned (.tuple #[.agg (spL S).toArray,.bool S.isSome])∧Run w0 w' rb R pl' lt' x' y'∧Mv w w' (Rf rb x y) (Rf rb x' y')∧FirstT p W P S
section
variable {w w':World} {S S':Nat→Prop}
theorem Mv.aside (h:Mv w w' S S') {g:Nat} (hg:w.heap.size≤g) (i:Nat) (v:Value):Mv w (w'.setCell ⟨g,i,none⟩ v) S S' :=
 ⟨h.chg.trans (T:=fun k=>k=g) ((Chg.refl w' _).setCell (p:=⟨g,i,none⟩) v rfl) fun k hk e=>by omega,h.new⟩
end
section
variable {w0 w w':World} {rb pl lt:Nat} {R:Rv} {x y:Fr}
theorem Run.aside (h:Run w0 w rb R pl lt x y) {g:Nat} (hg:¬Rf rb x y g) (h0:w0.heap.size≤g) (i:Nat) (v:Value):Run w0 (w.setCell ⟨g,i,none⟩ v) rb R pl lt x y:=by
 have hc:Chg w (w.setCell ⟨g,i,none⟩ v) (fun k=>k=g):=(Chg.refl w _).setCell (p:=⟨g,i,none⟩) v rfl
 exact ⟨h.blk.far (p:=⟨g,i,none⟩) (fun e=>hg (.inl e.symm)) v,h.now.keep hc fun k hk e=>hg (.inr (.inl (e ▸ hk))),h.old.keep hc fun k hk e=>hg (.inr (.inr (e ▸ hk))),h.dj,h.nx,h.ny,h.le,h.bel.trans (hc.below h.bel.size fun k hk e=>by omega)⟩
end
structure Sp (w0 w wr:World) (rb sb:Nat) (R:Rv) (i lt:Nat) (x y xr yr:Fr) (S:Option (Nat × Nat)):Prop where
 run:Run w0 wr rb R i lt xr yr
 mv:Mv w wr (Rf rb x y) (Rf rb xr yr)
 blk:Blk wr sb 52 (spL S)
 ne:¬Rf rb xr yr sb
 hi:w.heap.size≤sb
 bel:w0.heap.size≤sb
section
variable {w0 w wr wr':World} {rb sb i i' lt lt':Nat} {R:Rv} {x y xr yr xr' yr':Fr} {S:Option (Nat × Nat)}
theorem Sp.drew (h:Sp w0 w wr rb sb R i lt x y xr yr S):Sp w0 w wr.drew rb sb R i lt x y xr yr S:=⟨h.run.drew,h.mv.below (Below.refl _ _).drew,h.blk,h.ne,h.hi,h.bel⟩
theorem Sp.next (h:Sp w0 w wr rb sb R i lt x y xr yr S) (hb:Below wr.heap.size wr wr'):Sp w0 w wr' rb sb R i lt x y xr yr S:=⟨h.run.next hb,h.mv.below hb,h.blk.below hb h.blk.lt,h.ne,h.hi,h.bel⟩
theorem Sp.move (h:Sp w0 w wr rb sb R i lt x y xr yr S) (k:Run w0 wr' rb R i' lt' xr' yr') (m:Mv wr wr' (Rf rb xr yr) (Rf rb xr' yr')):Sp w0 w wr' rb sb R i' lt' x y xr' yr' S :=
 ⟨k,h.mv.trans m,blk_keep h.blk m.chg h.ne,fun hf=>h.ne (m.new _ h.blk.lt hf),h.hi,h.bel⟩
theorem Sp.lay (h:Sp w0 w wr rb sb R i lt x y xr yr S) (s e:Nat):∃u,u=(((wr.setCell ⟨sb,0,none⟩ (.int .i64 (s:Int))).setCell ⟨sb,1,none⟩ (.int .i64 (e:Int))).setCell ⟨sb,2,none⟩ (.int .i64 0)).setCell ⟨sb,3,none⟩ (.int .i64 0)∧Sp w0 w u rb sb R i lt x y xr yr (some (s,e)):=by
 refine ⟨_,rfl,(((h.run.aside h.ne h.bel 0 _).aside h.ne h.bel 1 _).aside h.ne h.bel 2 _).aside h.ne h.bel 3 _,(((h.mv.aside h.hi 0 _).aside h.hi 1 _).aside h.hi 2 _).aside h.hi 3 _,?_,h.ne,h.hi,h.bel⟩
 have:=(((h.blk.set_ 0 (.int .i64 (s:Int))).set_ 1 (.int .i64 (e:Int))).set_ 2 (.int .i64 0)).set_ 3 (.int .i64 0)
 cases S with
 | none=>exact this
 | some q=>exact this
theorem Sp.lay0 (h:Sp w0 w wr rb sb R i lt x y xr yr none):∃u,u=(((wr.setCell ⟨sb,0,none⟩ (.int .i64 0)).setCell ⟨sb,1,none⟩ (.int .i64 0)).setCell ⟨sb,2,none⟩ (.int .i64 0)).setCell ⟨sb,3,none⟩ (.int .i64 0)∧Sp w0 w u rb sb R i lt x y xr yr none :=
 ⟨_,rfl,(((h.run.aside h.ne h.bel 0 _).aside h.ne h.bel 1 _).aside h.ne h.bel 2 _).aside h.ne h.bel 3 _,(((h.mv.aside h.hi 0 _).aside h.hi 1 _).aside h.hi 2 _).aside h.hi 3 _,(((h.blk.set_ 0 (.int .i64 0)).set_ 1 (.int .i64 0)).set_ 2 (.int .i64 0)).set_ 3 (.int .i64 0),h.ne,h.hi,h.bel⟩
theorem Sp.setLt (h:Sp w0 w wr rb sb R i lt x y xr yr S) (P:Nat):Sp w0 w (wr.setCell ⟨rb,9,none⟩ (.int .i64 (P:Int))) rb sb R i P x y xr yr S:=by
 obtain ⟨k,m⟩:=h.run.setLt P
 exact h.move k m
end
set_option maxHeartbeats 16000000 in
theorem span_any {w0 w:World} {rb pl lt:Nat} {A U:Option Addr} {n c m d:Nat} {x y:Fr} {V:List NV} {p:List Ins} {W:List Tx} (P:Nat) (h:Run w0 w rb ⟨A,n,c,U,m,d,true,true⟩ pl lt x y) (hs:Src w0 ⟨A,n,c,U,m,d,true,true⟩ V p W) (hP:P≤m) :
  Calls Tryz.prog 32 #[.pointer (some ⟨rb,0,none⟩),.int .i64 (P:Int)] w (SpanT w0 w rb ⟨A,n,c,U,m,d,true,true⟩ x y p W P):=by
 obtain ⟨sb,hsb⟩:∃s,s=w.heap.size:=⟨_,rfl⟩
 obtain ⟨u,hu⟩:∃u,u=w.alloc (.cells #[.int .i64 0,.int .i64 0,.int .i64 0,.int .i64 0] 52):=⟨_,rfl⟩
 have hbu:Below w.heap.size w u:=by rw [hu];exact (Below.refl _ _).alloc (Nat.le_refl _) _
 have H1:=Lib.hid (show Sp w0 w u rb sb ⟨A,n,c,U,m,d,true,true⟩ pl lt x y x y none from
  ⟨h.next hbu,(Mv.refl w _).below hbu,by rw [hu,hsb];exact Blk.new w _ _,fun hf=>by have:=(h.hers hf).2;omega,by omega,by have:=h.bel.size;omega⟩)
 have HS:=Lib.hid hs
 have HU:=Lib.hid hu;have HSB:=Lib.hid hsb
 have hwl:=hs.win.len
 have HWL:=Lib.hid hwl
 have hm63:m≤1073741824:=hs.win.sm
 have hN:0 < n:=by have:=(Prg.may_last hs.may).1;have:=hs.arg.len2;dsimp only at this;omega
 clear h hs hbu hu hsb hwl
 go_enter Tryz.func32,Tryz.ntmps32
 go_upto_region 1 with fail
 rw [←HU.out,←HSB.out]
 go_wp2_with (go_at_call 47;refine (restart_any P H1.out.run).mono ?_;rintro e1 w1 ⟨x1,rfl,k1,k2,k3⟩;have K1:=Lib.hid (H1.out.move k1 k2);have K3:=Lib.hid k3;clear k1 k2 k3)
 go_loopw [5,6] (fun fv mv wr=>∃(i l:Nat) (xr yr:Fr) (S:Option (Nat × Nat)),P≤i∧i≤m∧Hid (Sp w0 w wr rb sb ⟨A,n,c,U,m,d,true,true⟩ i l x y xr yr S)∧fv=.bool S.isSome ∧
   ((mv=.bool true∧∃hi,Hid (Fnd p W i P S hi)∧Hid (Side p W true true i P hi xr.L xr.F)∧Hid (∀k∈xr.L,xr.F k < hi)∧Hid (Cl p (bg true i) (en true W.length i) xr.L xr.F)∧(∀q,S=some q→hi=l+1))∨(mv=.bool false∧Hid (FirstT p W P S)))) (fun _ mv wr=>2*(m - placeOf wr rb)+isT mv)
 case atStart=>exact ⟨P,lt,x1,y,none,Nat.le_refl _,hP,K1,rfl,.inl ⟨rfl,P,Lib.hid ⟨rfl,fun s hs=>lastM_early hs⟩,by rw [K3.out];exact Lib.hid (side_nil (Nat.le_refl _)),by rw [K3.out];exact Lib.hid (fun k hk=>by cases hk),by rw [K3.out];exact Lib.hid cl_nil,fun q hq=>by cases hq⟩⟩
 case round =>
  obtain ⟨i,l,xr,yr,S,hi1,hi2,J1,rfl,hm⟩:=hrel
  clear K1 K3 H1 HU
  have HPL:=Lib.hid J1.out.run.place
  rcases hm with ⟨rfl,hi,JF,JS,JB,JC,JL⟩ | ⟨rfl,JT⟩
  ·cases S with
   | none =>
    have JHI:=Lib.hid (show hi=i from JF.out.1)
    have HJN:=Lib.hid (join_any J1.out.run HS.out hN fun z c hz hn=>(JC.out z c hz (by rw [HWL.out];exact hn)).1)
    clear JL
    go_upto_region 7 with (first | (go_at_call 48;refine HJN.out.mono ?_;rintro e2 w2 ⟨x2,rfl,k1,k2,k3⟩;have K1:=Lib.hid (J1.out.move k1 k2);have K3:=Lib.hid (JS.out.join JC.out hi1 (by have:=JHI.out;omega) (by rw [HWL.out];exact k3)).1;have K4:=Lib.hid k3.at_;clear k1 k2 k3))
    have KB:=Lib.hid (fun k (hk:k∈x2.L)=>show x2.F k < i+1 from Nat.lt_succ_of_le (K3.out.snd k hk).2.1)
    have KH:=Lib.hid (show i+1=(match (none:Option (Nat × Nat)) with | none=>i+1 | some (s,_)=>s+1) from rfl)
    have HFR:=Lib.hid (K1.out.run.first p HS.out [6] 1 rfl (by omega))
    have HMA:=Lib.hid (K1.out.next ((Below.refl _ _).alloc (Nat.le_refl _) (.cells (ks .i64 [6]).toArray 3)))
    cases hf:firstOf p [6] x2.L with
    | none =>
     rw [hf] at HFR
     have HF1:=Lib.hid (show Calls Tryz.prog 24 _ _ (Tells _ (.tuple #[.int .i64 0,.bool false])) from HFR.out)
     have HN1:=Lib.hid (fnd_no JF.out K3.out KH.out hf)
     have HST:=Lib.hid (step_any P HMA.out.run HS.out hi2 (Nat.le_refl _) K3.out)
     clear hf HFR
     by_cases he:i=m∨x2.L=[]
     ·have HE:=Lib.hid he
      have HFT:=Lib.hid (show FirstT p W P none from fnd_end (by have:=HN1.out;have hm:i=m:=he.resolve_right (fun e=>by have:=K4.out;rw [e] at this;cases this);rw [hm,←HWL.out] at this;exact this))
      clear he
      go_wp2_with (first | (go_at_call 24;refine HF1.out.mono ?_;rintro e2 w3 ⟨rfl,rfl⟩) | (go_at_call 23;refine HST.out.mono ?_;intro e3 w4 h3;unfold Stepped at h3;rw [if_pos HE.out] at h3;obtain ⟨rfl,k1,k2⟩:=h3;have N1:=Lib.hid (HMA.out.move k1 k2);clear k1 k2))
      go_roundw
      case rel=>exact ⟨i,i,x2,yr,none,hi1,hi2,N1,rfl,.inr ⟨rfl,HFT⟩⟩
      case measure=>rw [HPL.out,N1.out.run.place];simp [isT]
     ·have HE:=Lib.hid he
      have him:i < m:=by omega
      clear he
      go_wp2_with (first | (go_at_call 24;refine HF1.out.mono ?_;rintro e2 w3 ⟨rfl,rfl⟩) | (go_at_call 23;refine HST.out.mono ?_;intro e3 w4 h3;unfold Stepped at h3;rw [if_neg HE.out] at h3;obtain ⟨x3,y3,rfl,k1,k2,k3,k4,k5⟩:=h3;have N1:=Lib.hid (HMA.out.move k1 k2);have N3:=Lib.hid k3;have N4:=Lib.hid k4;have N5:=Lib.hid k5;clear k1 k2 k3 k4 k5))
      go_roundw
      case rel=>exact ⟨i+1,i,x3,y3,none,by omega,by omega,N1,rfl,.inl ⟨rfl,i+1,HN1,N3,N4,by rw [HWL.out];exact N5,fun q hq=>by cases hq⟩⟩
      case measure=>rw [HPL.out,N1.out.run.place];simp [isT];omega
    | some k =>
     rw [hf] at HFR
     have HF1:=Lib.hid (show Calls Tryz.prog 24 _ _ (Tells _ (.tuple #[.int .i64 (k:Int),.bool true])) from HFR.out)
     obtain ⟨hmem,_⟩:=firstOf_some hf
     obtain ⟨y1,y2⟩:=fnd_yes JF.out K3.out KH.out KB.out hf
     have hkn:k < n:=HMA.out.run.now.lt hmem
     have hkn2:(k:Int) < (n:Int):=by omega
     have ck:=HMA.out.run.now.cell hmem
     have c6:=HMA.out.run.c6;have c4:=HMA.out.run.c4
     obtain ⟨u2,hu2,h2⟩:=HMA.out.lay (x2.F k) i
     have c9:=h2.run.c9;have f9:=h2.run.fr 9;have s0:World.cell? _ _=some (Value.int .i64 ((x2.F k:Nat):Int)):=h2.blk.cell 0
     have H3:=Lib.hid (h2.setLt (x2.F k))
     have hb:=HMA.out.blk
     have g0:=hb.frozen 0;have g1:=hb.frozen 1;have g2:=hb.frozen 2;have g3:=hb.frozen 3
     have b0:World.cell? _ _=some (Value.int .i64 0):=hb.cell 0;have b1:World.cell? _ _=some (Value.int .i64 0):=hb.cell 1;have b2:World.cell? _ _=some (Value.int .i64 0):=hb.cell 2;have b3:World.cell? _ _=some (Value.int .i64 0):=hb.cell 3
     have HU2:=Lib.hid hu2
     have hFi:=(K3.out.snd k hmem).2.1
     have HLS:=Lib.hid (K3.out.less (hi':=x2.F k+1) (by omega))
     have HNE:=Lib.hid (show x2.L≠[] from fun e=>by rw [e] at hmem;cases hmem)
     have HY:=Lib.hid y1
     generalize hfk:x2.F k=fk at *
     have HST:=Lib.hid (step_any P H3.out.drew.run HS.out hi2 hFi HLS.out)
     obtain ⟨u3,hu3⟩:∃u3,u3=u2.setCell ⟨rb,9,none⟩ (.int .i64 (fk:Int)):=⟨_,rfl⟩
     rw [←hu3] at H3 HST
     have HU3:=Lib.hid hu3
     clear hf HFR hmem y1 y2 hu2 h2 hb hfk hu3 hkn
     go_upto_region 9 with (first | (go_at_call 24;refine HF1.out.mono ?_;rintro e2 w3 ⟨rfl,rfl⟩))
     go_region
     rw [←HU2.out]
     clear b0 b1 b2 b3 g0 g1 g2 g3 c4 c6 ck
     by_cases he:i=m
     ·have HE:=Lib.hid (show i=(⟨A,n,c,U,m,d,true,true⟩:Rv).m∨x2.L=[] from .inl he)
      have HFT:=Lib.hid (show FirstT p W P (some (fk,i)) from fnd_end (by have:=HY.out;rw [he,←HWL.out] at this ⊢;exact this))
      clear he
      go_wp2_with (first | (go_at_call 23;rw [←HU3.out];refine HST.out.mono ?_;intro e3 w4 h3;unfold Stepped at h3;rw [if_pos HE.out] at h3;obtain ⟨rfl,k1,k2⟩:=h3;have N1:=Lib.hid (H3.out.drew.move k1 k2);clear k1 k2))
      go_roundw
      case rel=>exact ⟨i,fk,x2,yr,some (fk,i),hi1,hi2,N1,rfl,.inr ⟨rfl,HFT⟩⟩
      case measure=>rw [HPL.out,N1.out.run.place];simp [isT]
     ·have HE:=Lib.hid (show ¬(i=(⟨A,n,c,U,m,d,true,true⟩:Rv).m∨x2.L=[]) from fun h=>h.elim he HNE.out)
      have him:i < m:=by omega
      clear he
      go_wp2_with (first | (go_at_call 23;rw [←HU3.out];refine HST.out.mono ?_;intro e3 w4 h3;unfold Stepped at h3;rw [if_neg HE.out] at h3;obtain ⟨x3,y3,rfl,k1,k2,k3,k4,k5⟩:=h3;have N1:=Lib.hid (H3.out.drew.move k1 k2);have N3:=Lib.hid k3;have N4:=Lib.hid k4;have N5:=Lib.hid k5;clear k1 k2 k3 k4 k5))
      go_roundw
      case rel=>exact ⟨i+1,fk,x3,y3,some (fk,i),by omega,by omega,N1,rfl,.inl ⟨rfl,fk+1,HY,N3,N4,by rw [HWL.out];exact N5,fun q hq=>rfl⟩⟩
      case measure=>rw [HPL.out,N1.out.run.place];simp [isT];omega
   | some q =>
    obtain ⟨s,e⟩:=q
    obtain rfl:hi=l+1:=JL _ rfl
    have JSL:=Lib.hid (show s=l by have:=JF.out.1;omega)
    obtain rfl:=JSL.out
    clear JL JSL
    go_upto_region 7 with fail
    have KB:=JB
    have KH:=Lib.hid (show s+1=(match (some (s,e):Option (Nat × Nat)) with | none=>i+1 | some (s,_)=>s+1) from rfl)
    have HFR:=Lib.hid (J1.out.run.first p HS.out [6] 1 rfl (by omega))
    have HMA:=Lib.hid (J1.out.next ((Below.refl _ _).alloc (Nat.le_refl _) (.cells (ks .i64 [6]).toArray 3)))
    cases hf:firstOf p [6] xr.L with
    | none =>
     rw [hf] at HFR
     have HF1:=Lib.hid (show Calls Tryz.prog 24 _ _ (Tells _ (.tuple #[.int .i64 0,.bool false])) from HFR.out)
     have HN1:=Lib.hid (fnd_no JF.out JS.out KH.out hf)
     have HST:=Lib.hid (step_any P HMA.out.run HS.out hi2 (by have:=JF.out.2.2.1;omega) JS.out)
     clear hf HFR
     by_cases he:i=m∨xr.L=[]
     ·have HE:=Lib.hid he
      have QF:FirstT p W P (some (s,e)):=by
       by_cases hm:i=m
       ·have:=HN1.out;rw [hm,←HWL.out] at this;exact fnd_end this
       ·have hx:=he.resolve_left hm;have h5:=JS.out;rw [hx] at h5;exact fnd_stop HN1.out h5 (by rw [HWL.out];exact hi2)
      have HFT:=Lib.hid (show FirstT p W P (some (s,e)) from QF)
      clear QF
      clear he
      go_wp2_with (first | (go_at_call 24;refine HF1.out.mono ?_;rintro e2 w3 ⟨rfl,rfl⟩) | (go_at_call 23;refine HST.out.mono ?_;intro e3 w4 h3;unfold Stepped at h3;rw [if_pos HE.out] at h3;obtain ⟨rfl,k1,k2⟩:=h3;have N1:=Lib.hid (HMA.out.move k1 k2);clear k1 k2))
      go_roundw
      case rel=>exact ⟨i,s,xr,yr,(some (s,e)),hi1,hi2,N1,rfl,.inr ⟨rfl,HFT⟩⟩
      case measure=>rw [HPL.out,N1.out.run.place];simp [isT]
     ·have HE:=Lib.hid he
      have him:i < m:=by omega
      clear he
      go_wp2_with (first | (go_at_call 24;refine HF1.out.mono ?_;rintro e2 w3 ⟨rfl,rfl⟩) | (go_at_call 23;refine HST.out.mono ?_;intro e3 w4 h3;unfold Stepped at h3;rw [if_neg HE.out] at h3;obtain ⟨x3,y3,rfl,k1,k2,k3,k4,k5⟩:=h3;have N1:=Lib.hid (HMA.out.move k1 k2);have N3:=Lib.hid k3;have N4:=Lib.hid k4;have N5:=Lib.hid k5;clear k1 k2 k3 k4 k5))
      go_roundw
      case rel=>exact ⟨i+1,s,x3,y3,(some (s,e)),by omega,by omega,N1,rfl,.inl ⟨rfl,s+1,HN1,N3,N4,by rw [HWL.out];exact N5,fun q hq=>rfl⟩⟩
      case measure=>rw [HPL.out,N1.out.run.place];simp [isT];omega
    | some k =>
     rw [hf] at HFR
     have HF1:=Lib.hid (show Calls Tryz.prog 24 _ _ (Tells _ (.tuple #[.int .i64 (k:Int),.bool true])) from HFR.out)
     obtain ⟨hmem,_⟩:=firstOf_some hf
     obtain ⟨y1,y2⟩:=fnd_yes JF.out JS.out KH.out KB.out hf
     have hkn:k < n:=HMA.out.run.now.lt hmem
     have hkn2:(k:Int) < (n:Int):=by omega
     have ck:=HMA.out.run.now.cell hmem
     have c6:=HMA.out.run.c6;have c4:=HMA.out.run.c4
     obtain ⟨u2,hu2,h2⟩:=HMA.out.lay (xr.F k) i
     have c9:=h2.run.c9;have f9:=h2.run.fr 9;have s0:World.cell? _ _=some (Value.int .i64 ((xr.F k:Nat):Int)):=h2.blk.cell 0
     have H3:=Lib.hid (h2.setLt (xr.F k))
     have hb:=HMA.out.blk
     have g0:=hb.frozen 0;have g1:=hb.frozen 1;have g2:=hb.frozen 2;have g3:=hb.frozen 3
     have b0:World.cell? _ _=some (Value.int .i64 (s:Int)):=hb.cell 0;have b1:World.cell? _ _=some (Value.int .i64 (e:Int)):=hb.cell 1;have b2:World.cell? _ _=some (Value.int .i64 0):=hb.cell 2;have b3:World.cell? _ _=some (Value.int .i64 0):=hb.cell 3
     have HU2:=Lib.hid hu2
     have hFi:=(JS.out.snd k hmem).2.1
     have HLS:=Lib.hid (JS.out.less (hi':=xr.F k+1) (by omega))
     have HNE:=Lib.hid (show xr.L≠[] from fun e=>by rw [e] at hmem;cases hmem)
     have HY:=Lib.hid y1
     generalize hfk:xr.F k=fk at *
     have HST:=Lib.hid (step_any P H3.out.drew.run HS.out hi2 hFi HLS.out)
     obtain ⟨u3,hu3⟩:∃u3,u3=u2.setCell ⟨rb,9,none⟩ (.int .i64 (fk:Int)):=⟨_,rfl⟩
     rw [←hu3] at H3 HST
     have HU3:=Lib.hid hu3
     clear hf HFR hmem y1 y2 hu2 h2 hb hfk hu3 hkn
     go_upto_region 9 with (first | (go_at_call 24;refine HF1.out.mono ?_;rintro e2 w3 ⟨rfl,rfl⟩))
     go_region
     rw [←HU2.out]
     clear b0 b1 b2 b3 g0 g1 g2 g3 c4 c6 ck
     by_cases he:i=m
     ·have HE:=Lib.hid (show i=(⟨A,n,c,U,m,d,true,true⟩:Rv).m∨xr.L=[] from .inl he)
      have HFT:=Lib.hid (show FirstT p W P (some (fk,i)) from fnd_end (by have:=HY.out;rw [he,←HWL.out] at this ⊢;exact this))
      clear he
      go_wp2_with (first | (go_at_call 23;rw [←HU3.out];refine HST.out.mono ?_;intro e3 w4 h3;unfold Stepped at h3;rw [if_pos HE.out] at h3;obtain ⟨rfl,k1,k2⟩:=h3;have N1:=Lib.hid (H3.out.drew.move k1 k2);clear k1 k2))
      go_roundw
      case rel=>exact ⟨i,fk,xr,yr,some (fk,i),hi1,hi2,N1,rfl,.inr ⟨rfl,HFT⟩⟩
      case measure=>rw [HPL.out,N1.out.run.place];simp [isT]
     ·have HE:=Lib.hid (show ¬(i=(⟨A,n,c,U,m,d,true,true⟩:Rv).m∨xr.L=[]) from fun h=>h.elim he HNE.out)
      have him:i < m:=by omega
      clear he
      go_wp2_with (first | (go_at_call 23;rw [←HU3.out];refine HST.out.mono ?_;intro e3 w4 h3;unfold Stepped at h3;rw [if_neg HE.out] at h3;obtain ⟨x3,y3,rfl,k1,k2,k3,k4,k5⟩:=h3;have N1:=Lib.hid (H3.out.drew.move k1 k2);have N3:=Lib.hid k3;have N4:=Lib.hid k4;have N5:=Lib.hid k5;clear k1 k2 k3 k4 k5))
      go_roundw
      case rel=>exact ⟨i+1,fk,x3,y3,some (fk,i),by omega,by omega,N1,rfl,.inl ⟨rfl,fk+1,HY,N3,N4,by rw [HWL.out];exact N5,fun q hq=>rfl⟩⟩
      case measure=>rw [HPL.out,N1.out.run.place];simp [isT];omega
  ·cases S with
   | none =>
    obtain ⟨u2,hu2,h2⟩:=J1.out.lay0
    have hb:=J1.out.blk
    have g0:=hb.frozen 0;have g1:=hb.frozen 1;have g2:=hb.frozen 2;have g3:=hb.frozen 3
    have b0:World.cell? _ _=some (Value.int .i64 0):=hb.cell 0;have b1:World.cell? _ _=some (Value.int .i64 0):=hb.cell 1;have b2:World.cell? _ _=some (Value.int .i64 0):=hb.cell 2;have b3:World.cell? _ _=some (Value.int .i64 0):=hb.cell 3
    have HU2:=Lib.hid hu2;have H2:=Lib.hid h2;have HBK:=Lib.hid h2.blk
    clear hb hu2 h2
    go_wp2_with fail
    rw [←HU2.out]
    refine span_ret HBK.out rfl rfl rfl rfl ?_
    exact ⟨_,xr,yr,i,l,rfl,H2.out.run,H2.out.mv,JT.out⟩
   | some q =>
    obtain ⟨s,e⟩:=q
    obtain ⟨u2,hu2,h2⟩:=J1.out.lay s e
    have hb:=J1.out.blk
    have g0:=hb.frozen 0;have g1:=hb.frozen 1;have g2:=hb.frozen 2;have g3:=hb.frozen 3
    have b0:World.cell? _ _=some (Value.int .i64 (s:Int)):=hb.cell 0;have b1:World.cell? _ _=some (Value.int .i64 (e:Int)):=hb.cell 1;have b2:World.cell? _ _=some (Value.int .i64 0):=hb.cell 2;have b3:World.cell? _ _=some (Value.int .i64 0):=hb.cell 3
    have HU2:=Lib.hid hu2;have H2:=Lib.hid h2;have HBK:=Lib.hid h2.blk
    clear hb hu2 h2
    go_wp2_with fail
    rw [←HU2.out]
    refine span_ret HBK.out rfl rfl rfl rfl ?_
    exact ⟨_,xr,yr,i,l,rfl,H2.out.run,H2.out.mv,JT.out⟩
end Go.Proofs.YtegdbmbenjnacaaGreat.Pike
namespace Go.Proofs.YtegdbmbenjnacaaGreat.Pike
open Go.RowKit Mem Sparse
open Prg (Ins ints mem_ints mayP nxt nexts nexts_iff nxt_lt Rch)
open Sset (Tx ArgT Has3 hasS)
open Syn (Nd NV nvs rd_nv nv_form Means ArgN)
set_option maxRecDepth 100000
def sps (l:List (Nat × Nat)):List Value:=l.flatMap fun q=>[.int .i64 (q.1:Int),.int .i64 (q.2:Int),.int .i64 0,.int .i64 0]
theorem sps_len:∀l:List (Nat × Nat),(sps l).length=l.length*4
 | []=>rfl
 | q :: l=>by
  show (_ :: _ :: _ :: _ :: sps l).length=_
  simp only [List.length_cons,sps_len l];omega
theorem sps_app (a b:List (Nat × Nat)):sps (a++b)=sps a++sps b:=by unfold sps;rw [List.flatMap_append]
theorem infoSpan:(Tryz.prog.info? 52).map (fun i=>(i.zero,i.size,i.bytes))=some (some (.agg #[.int .i64 0,.int .i64 0,.int .i64 0,.int .i64 0]),4,32):=by kernel_rfl
theorem sp_ones (s e:Nat):∀u∈[Value.int .i64 (s:Int),.int .i64 (e:Int),.int .i64 0,.int .i64 0],u.oneCell'=true:=by
 intro u hu
 simp only [List.mem_cons,List.not_mem_nil,or_false] at hu
 rcases hu with rfl | rfl | rfl | rfl <;> rfl
def AllT (w:World) (p:List Ins) (W:List Tx) (e:Ending) (w':World):Prop :=
 if mayP p=true then ∃v,e=.returned (.tuple #[v,.int .i64 0])∧w'.ownsRow w.heap.size 52 4 v (allF p W 0).length (sps (allF p W 0))∧Below w.heap.size w w'
 else e=.returned (.tuple #[.slice none 0 0,.int .i64 1])∧Below w.heap.size w w'
structure Al (w wr:World) (rb:Nat) (R:Rv) (pl lt:Nat) (x y:Fr) (v:Value) (D:List (Nat × Nat)):Prop where
 run:Run w wr rb R pl lt x y
 own:wr.ownsRow w.heap.size 52 4 v D.length (sps D)
 ap:∀i,v.ownBlock=some i→¬Rf rb x y i
section
variable {w wr wr':World} {rb pl lt pl' lt':Nat} {R:Rv} {x y x' y':Fr} {v:Value} {D:List (Nat × Nat)}
theorem Al.next (h:Al w wr rb R pl lt x y v D) (hb:Below wr.heap.size wr wr'):Al w wr' rb R pl lt x y v D:=⟨h.run.next hb,own_below h.own hb,h.ap⟩
theorem Al.move (h:Al w wr rb R pl lt x y v D) (k:Run w wr' rb R pl' lt' x' y') (m:Mv wr wr' (Rf rb x y) (Rf rb x' y')):Al w wr' rb R pl' lt' x' y' v D :=
 ⟨k,own_keep h.own m.chg h.ap,fun i hi hf=>h.ap i hi (m.new i (h.own.lt i hi).2 hf)⟩
theorem Al.put (h:Al w wr rb R pl lt x y v D) {n s e:Nat} {v':Value} (hn:D.length=n) (ho:wr'.ownsRow w.heap.size 52 4 v' (n+1) (sps D++[.int .i64 (s:Int),.int .i64 (e:Int),.int .i64 0,.int .i64 0])) (hg:wr.grownBy wr' v.ownBlock) (ha:v'.ownBlock=v.ownBlock∨v'.ownBlock=some wr.heap.size) :
  Al w wr' rb R pl lt x y v' (D++[(s,e)]):=by
 subst hn
 have hc:Chg wr wr' (fun i=>v.ownBlock=some i):=(Chg.refl wr _).grown hg fun i _ e=>e
 have hf:∀i,Rf rb x y i→¬v.ownBlock=some i:=fun i hi e=>h.ap i e hi
 refine ⟨⟨blk_keep h.run.blk hc (hf _ (.inl rfl)),h.run.now.keep hc fun i hi=>hf i (.inr (.inl hi)),h.run.old.keep hc fun i hi=>hf i (.inr (.inr hi)),h.run.dj,h.run.nx,h.run.ny,h.run.le,h.run.bel.trans (hc.below h.run.bel.size fun i hi e=>by have:=(h.own.lt i e).1;omega)⟩,?_,fun i hi hr=>?_⟩
 ·rw [List.length_append,sps_app];exact ho
 ·rcases ha with ha | ha
  ·rw [ha] at hi;exact h.ap i hi hr
  ·rw [ha] at hi;injection hi with hi;have:=(h.run.hers hr).2;omega
end
set_option maxHeartbeats 16000000 in
theorem all_any (A U:Option Addr) (n c m d:Nat) {V:List NV} {p:List Ins} {W:List Tx} (w:World) (hA:ArgN w A n V p) (hW:ArgT w U m W) :
  Calls Tryz.prog 14 #[.slice A n c,.slice U m d] w (AllT w p W):=by
 obtain ⟨i0,hi,hz0,hz1,hz2⟩:=info_parts infoSpan
 have HB:=Lib.hid (begun_any A U n c m d true true 0 w hA hW)
 have hwl:=hW.len
 have hm63:m≤1073741824:=hW.sm
 by_cases hc:mayP p=true
 ·have HS:=Lib.hid (show Src w ⟨A,n,c,U,m,d,true,true⟩ V p W from ⟨hA,hW,hc⟩)
  have HWL:=Lib.hid hwl
  have HC:=Lib.hid hc
  have HC2:=Lib.hid (show mayP p=true∧0≤(0:Int)∧(0:Int)≤((⟨A,n,c,U,m,d,true,true⟩:Rv).m:Int) from ⟨hc,by omega,by dsimp only;omega⟩)
  clear hA hW hwl hc
  go_enter Tryz.func14,Tryz.ntmps14
  go_wp2_with (go_at_call 22;refine HB.out.mono ?_;intro e1 w1 hb;unfold Begun at hb;rw [if_pos HC2.out] at hb;obtain ⟨rb,x,y,rfl,k1,k2,k3⟩:=hb;have K1:=Lib.hid k1;clear k1 k2 k3)
  go_loopw [8,9] (fun v fv wr=>∃(a pl lt:Nat) (xr yr:Fr) (D:List (Nat × Nat)),a≤m+1∧fv=.int .i64 (a:Int)∧D.length≤a∧Hid (Al w wr rb ⟨A,n,c,U,m,d,true,true⟩ pl lt xr yr v D)∧Hid (D++allF p W a=allF p W 0)) (fun _ fv _=>m+1 - (intOf fv).toNat)
  case atStart=>exact ⟨0,_,_,x,y,[],by omega,rfl,Nat.le_refl _,Lib.hid ⟨K1.out,World.ownsRow_nil _ _ _ _,fun i hi=>by cases hi⟩,Lib.hid rfl⟩
  case round =>
   obtain ⟨a,pl,lt,xr,yr,D,ha,rfl,hD,J1,J2⟩:=hrel
   clear K1
   have hown:=J1.out.own
   obtain ⟨dn,hdn⟩:∃n,D.length=n:=⟨_,rfl⟩
   have HDN:=Lib.hid hdn
   rw [hdn] at hown hD
   obtain ⟨Av,cv,rfl,_,_,_⟩:=own_form hown
   have HO:=Lib.hid hown
   clear hown hdn
   by_cases hle:a≤m
   ·have HSP:=Lib.hid (span_any a J1.out.run HS.out hle)
    have hle2:(a:Int)≤(m:Int):=by omega
    have dle:decide ((a:Int)≤(m:Int))=true:=decide_eq_true hle2
    go_upto_region 8 with (first | (go_at_call 32;refine HSP.out.mono ?_;rintro e2 w2 ⟨S,x2,y2,pl2,lt2,rfl,k1,k2,k3⟩;have K1:=Lib.hid (J1.out.move k1 k2);have K3:=Lib.hid k3;clear k1 k2 k3;rcases S with _ | ⟨s,e⟩ <;> dsimp only [spL,Option.isSome]))
    ·have h5:=J2.out
     rw [firstT_none K3.out,List.append_nil] at h5
     have K5:=Lib.hid (K1.out.next ((Below.refl _ _).alloc (Nat.le_refl _) (.cells #[.int .i64 0,.int .i64 0,.int .i64 0,.int .i64 0] 52)))
     have H5:=Lib.hid h5
     clear h5
     go_wp2_with fail
     go_ret2
     unfold AllT
     rw [if_pos HC.out,←H5.out,HDN.out]
     exact ⟨_,rfl,HDN.out ▸ K5.out.own,K5.out.run.bel⟩
    ·have hb2:Below w2.heap.size w2 ((w2.alloc (.cells #[.int .i64 (s:Int),.int .i64 (e:Int),.int .i64 0,.int .i64 0] 52)).alloc (.cells #[.int .i64 (s:Int),.int .i64 (e:Int),.int .i64 0,.int .i64 0] 52)):=((Below.refl _ _).alloc (Nat.le_refl _) _).alloc (by simp) _
     have K5:=Lib.hid (K1.out.next hb2)
     obtain ⟨f1,f2,f3,_⟩:=K3.out
     obtain ⟨e1,e2,_,_⟩:=lastM_some f3
     rw [HWL.out] at f2 e1
     have HFA:=Lib.hid (firstT_all K3.out)
     have hK5s:=Lib.hid (Nat.le_trans K1.out.run.bel.size hb2.size)
     have HBL:=Lib.hid ((Blk.new w2 52 [.int .i64 (s:Int),.int .i64 (e:Int),.int .i64 0,.int .i64 0]).alloc (.cells #[.int .i64 (s:Int),.int .i64 (e:Int),.int .i64 0,.int .i64 0] 52))
     have HNB:=Lib.hid (show some w2.heap.size≠(Value.slice Av dn cv).ownBlock from fun e=>by have:=(K1.out.own.lt _ e.symm).2;omega)
     have ew:IntKind.i64.wrap ((s:Int)+1)=(s:Int)+1:=IntWalk.i64_in _ (by omega)
     have hmx:max (e:Int) ((s:Int)+1)=((max e (s+1):Nat):Int):=by omega
     have hmx2:max e (s+1)≤m+1:=by omega
     have hmx3:a < max e (s+1):=by omega
     generalize hq:max e (s+1)=a2 at hmx hmx2 hmx3 HFA
     clear f3 hb2 hq
     go_wp2_with (at_builtin;refine wpList_append_rd _ rfl (.tmp 32) (.tmp 34) _ rfl w.heap.size 52 i0 _ 4 32 Tryz.underlying34 hi hz0 hz1 hz2 rfl (by decide) (.slice Av dn cv) dn (sps D) rfl (by have:=K5.out.own;rw [HDN.out] at this;exact this) _ (some ⟨w2.heap.size+1,0,none⟩) 1 1 [.int .i64 (s:Int),.int .i64 (e:Int),.int .i64 0,.int .i64 0] rfl rfl (rd_new (w2.alloc (.cells #[.int .i64 (s:Int),.int .i64 (e:Int),.int .i64 0,.int .i64 0] 52)) _ [.int .i64 (s:Int),.int .i64 (e:Int),.int .i64 0,.int .i64 0] _ (by simp)) (sp_ones s e) (by unfold maxLen;omega) (by omega) (hK5s.out) ?_;intro v6 w6 hown6 hgr6 hat6;have K6:=Lib.hid (K5.out.put HDN.out hown6 hgr6 hat6);have bq:=(HBL.out).grown hgr6 HNB.out;have q0:w6.cell? ⟨w2.heap.size,0,none⟩=some (.int .i64 (s:Int)):=bq.cell 0;have q1:w6.cell? ⟨w2.heap.size,1,none⟩=some (.int .i64 (e:Int)):=bq.cell 1;clear hown6 hgr6 hat6 bq)
     go_roundw
     case rel=>exact ⟨a2,pl2,lt2,x2,y2,D++[(s,e)],hmx2,by go_num,by rw [List.length_append,HDN.out];simp;omega,K6,Lib.hid (by rw [List.append_assoc];show D++((s,e) :: allF p W a2)=_;rw [←HFA.out];exact J2.out)⟩
     case measure=>simp [intOf];omega
   ·have h5:=J2.out
    rw [allF_end (by rw [HWL.out];omega),List.append_nil] at h5
    have H5:=Lib.hid h5
    have dle:decide ((a:Int)≤(m:Int))=false:=decide_eq_false (by omega)
    clear h5
    go_wp2_with fail
    go_ret2
    unfold AllT
    rw [if_pos HC.out,←H5.out,HDN.out]
    exact ⟨_,rfl,HDN.out ▸ J1.out.own,J1.out.run.bel⟩
 ·have HC:=Lib.hid hc
  have HC2:=Lib.hid (show ¬(mayP p=true∧0≤(0:Int)∧(0:Int)≤((⟨A,n,c,U,m,d,true,true⟩:Rv).m:Int)) from fun h=>hc h.1)
  clear hA hW hwl hc
  go_enter Tryz.func14,Tryz.ntmps14
  go_wp2_with (go_at_call 22;refine HB.out.mono ?_;intro e1 w1 hb;unfold Begun at hb;rw [if_neg HC2.out] at hb;obtain ⟨rfl,hb⟩:=hb;have HB2:=Lib.hid hb;clear hb)
  go_wp2_with fail
  go_ret2
  unfold AllT
  rw [if_neg HC.out]
  exact ⟨rfl,HB2.out⟩
end Go.Proofs.YtegdbmbenjnacaaGreat.Pike
namespace Go.Proofs.YtegdbmbenjnacaaGreat.Pike
open Sset (St Tx hasS)
open Prg (Ins nxt Rch mayP)
set_option maxRecDepth 100000
open Classical
section
variable {p:List Ins} {W W':List Tx} {b b' f f':Bool} {s a:Nat}
theorem ov_iff {O O':Nat→Prop} (h:∀k,O k↔O' k) {x:Tx} (k:Nat):Ov p O x k↔Ov p O' x k :=
 ⟨fun ⟨i,s,h1,h2⟩=>⟨i,s,(h i).1 h1,h2⟩,fun ⟨i,s,h1,h2⟩=>⟨i,s,(h i).2 h1,h2⟩⟩
theorem any_same {O O':Nat→Prop} (h:∀k,O k↔O' k) (z:Int):Any p O z↔Any p O' z :=
 ⟨fun ⟨i,s,h1,h2⟩=>⟨i,s,(h i).1 h1,h2⟩,fun ⟨i,s,h1,h2⟩=>⟨i,s,(h i).2 h1,h2⟩⟩
theorem en_drop (ha:a≤W.length) (i:Nat):en f (W.drop a).length i=en f W.length (a+i):=by
 unfold en;rw [List.length_drop];congr 1;rw [decide_eq_decide];omega
theorem bg_no (i:Nat):bg false i=false:=by unfold bg;rfl
theorem R_shift (ha:a≤W.length):∀i k,R p (W.drop a) false f 0 i k↔R p W false f a (a+i) k
 | 0,k=>by
  rw [R_here,Nat.add_zero,R_here,en_drop ha,bg_no,bg_no,Nat.add_zero]
 | i+1,k=>by
  rw [R_next (Nat.zero_le i),←Nat.add_assoc,R_next (Nat.le_add_right a i),en_drop ha,bg_no,bg_no,←Nat.add_assoc]
  refine rch_iff fun k=>?_
  rw [show (W.drop a).getD i []=W.getD (a+i) [] by simp [List.getD]]
  exact ov_iff (R_shift ha i) k
theorem lastM_shift (ha:a≤W.length):∀i,lastM p W false f a (a+i)=(lastM p (W.drop a) false f 0 i).map fun e=>e+a
 | 0=>by rw [Nat.add_zero,lastM_early (Nat.le_refl _)];rfl
 | i+1=>by
  by_cases h:Any p (R p (W.drop a) false f 0 i) 6
  ·rw [lastM_yes h,←Nat.add_assoc,lastM_yes ((any_same (R_shift ha i) 6).1 h),Nat.add_comm];rfl
  ·rw [lastM_no h,←Nat.add_assoc,lastM_no fun e=>h ((any_same (R_shift ha i) 6).2 e)]
   exact lastM_shift ha i
theorem openF_shift (ha:a≤W.length):openF p W false f a=openF p (W.drop a) false f 0:=by
 have h:=R_shift (p:=p) (f:=f) ha (W.drop a).length
 rw [List.length_drop,Nat.add_sub_cancel' ha] at h
 unfold openF
 rw [List.length_drop]
 congr 1
 rw [decide_eq_decide,any_same h 1,any_same h 5]
theorem long_shift (ha:a≤W.length):longF p W false f (a:Int)=(if (longF p (W.drop a) false f 0).2.1=true then (longF p (W.drop a) false f 0).1+a else (longF p (W.drop a) false f 0).1,(longF p (W.drop a) false f 0).2.1,(longF p (W.drop a) false f 0).2.2.1,(longF p (W.drop a) false f 0).2.2.2):=by
 by_cases hm:mayP p=true
 ·have h1:lastM p W false f a (W.length+1)=(lastM p (W.drop a) false f 0 ((W.drop a).length+1)).map fun e=>e+a:=by
   rw [←lastM_shift ha,List.length_drop];congr 1;omega
  have e1:longF p (W.drop a) false f 0=((((lastM p (W.drop a) false f 0 ((W.drop a).length+1)).getD 0:Nat):Int),(lastM p (W.drop a) false f 0 ((W.drop a).length+1)).isSome,openF p (W.drop a) false f 0,0):=if_pos ⟨hm,Int.le_refl 0,Int.natCast_nonneg _⟩
  have e2:longF p W false f (a:Int)=((((lastM p W false f a (W.length+1)).getD 0:Nat):Int),(lastM p W false f a (W.length+1)).isSome,openF p W false f a,0):=if_pos ⟨hm,Int.natCast_nonneg _,Int.ofNat_le.2 ha⟩
  rw [e1,e2,openF_shift ha,h1]
  cases lastM p (W.drop a) false f 0 ((W.drop a).length+1) with
  | none=>rfl
  | some e=>simp
 ·have e1:longF p (W.drop a) false f 0=(0,false,false,1):=if_neg fun h=>hm h.1
  have e2:longF p W false f (a:Int)=(0,false,false,1):=if_neg fun h=>hm h.1
  rw [e1,e2];rfl
theorem long_bound (p:List Ins) (W:List Tx) (b f:Bool) (z:Int):0≤(longF p W b f z).1∧(longF p W b f z).1≤W.length:=by
 unfold longF
 split
 ·dsimp only
  cases h:lastM p W b f z.toNat (W.length+1) with
  | none=>exact ⟨Int.le_refl _,Int.natCast_nonneg _⟩
  | some e=>have:=(lastM_some h).1;exact ⟨Int.natCast_nonneg _,by show (e:Int)≤_;omega⟩
 ·exact ⟨Int.le_refl _,Int.natCast_nonneg _⟩
theorem R_begin (ha:0 < a):∀i k,R p W true f a i k↔R p W false f a i k
 | 0,k=>⟨fun h=>absurd h (R_early ha k),fun h=>absurd h (R_early ha k)⟩
 | i+1,k=>by
  have hb:bg true (i+1)=bg false (i+1):=by unfold bg;simp
  show Rch p (bg true (i+1)) _ _ k↔Rch p (bg false (i+1)) _ _ k
  rw [hb]
  exact rch_iff fun k=>or_congr Iff.rfl (ov_iff (R_begin ha i) k)
theorem lastM_begin (ha:0 < a):∀i,lastM p W true f a i=lastM p W false f a i
 | 0=>rfl
 | i+1=>by
  by_cases h:Any p (R p W true f a i) 6
  ·rw [lastM_yes h,lastM_yes ((any_same (R_begin ha i) 6).1 h)]
  ·rw [lastM_no h,lastM_no fun e=>h ((any_same (R_begin ha i) 6).2 e)]
   exact lastM_begin ha i
theorem long_begin (ha:0 < a):longF p W true f (a:Int)=longF p W false f (a:Int):=by
 unfold longF
 rw [Int.toNat_natCast,lastM_begin ha]
 have:openF p W true f a=openF p W false f a:=by
  unfold openF;congr 1;rw [decide_eq_decide,any_same (R_begin ha _) 1,any_same (R_begin ha _) 5]
 rw [this]
theorem en_more (f:Bool) {i n m:Nat} (h:i < n) (hm:n≤m):en f m i=en false n i:=by unfold en;rw [decide_eq_false (show ¬i=m by omega),decide_eq_false (show ¬i=n by omega),Bool.and_false];rfl
theorem R_more (U:List Tx):∀i,i < W.length→∀k,R p W b false s i k↔R p (W++U) b f s i k
 | 0,hi,k=>by
  show Rch p _ _ _ k↔Rch p _ _ _ k
  rw [en_more f hi (show W.length≤(W++U).length by rw [List.length_append];omega)]
 | i+1,hi,k=>by
  show Rch p _ _ _ k↔Rch p _ _ _ k
  rw [en_more f hi (show W.length≤(W++U).length by rw [List.length_append];omega)]
  refine rch_iff fun k=>or_congr Iff.rfl ?_
  rw [show (W++U).getD i []=W.getD i [] by simp [List.getD,List.getElem?_append_left (show i < W.length by omega)]]
  exact ov_iff (R_more U i (by omega)) k
theorem rch_end {b e:Bool} {S:Nat→Prop} (h:∀k x,Rch p b false S k→p[k]? = some x→x.kind≠5) (k:Nat):Rch p b e S k↔Rch p b false S k:=by
 constructor
 ·intro hr
  induction hr with
  | here h1 h2=>exact .here h1 h2
  | step h1 h2 ih =>
   refine .step ih ?_
   obtain ⟨x,hx,hc⟩:=h2
   refine ⟨x,hx,?_⟩
   rcases hc with hc | hc | hc | ⟨hc,_⟩
   ·exact .inl hc
   ·exact .inr (.inl hc)
   ·exact .inr (.inr (.inl hc))
   ·exact absurd hc (h _ x ih hx)
 ·intro hr
  induction hr with
  | here h1 h2=>exact .here h1 h2
  | step h1 h2 ih =>
   refine .step ih ?_
   obtain ⟨x,hx,hc⟩:=h2
   refine ⟨x,hx,?_⟩
   rcases hc with hc | hc | hc | ⟨_,hc,_⟩
   ·exact .inl hc
   ·exact .inr (.inl hc)
   ·exact .inr (.inr (.inl hc))
   ·cases hc
theorem open_no (h:openF p W b false s=false):¬Any p (R p W b false s W.length) 1∧¬Any p (R p W b false s W.length) 5:=by
 unfold openF at h
 rw [Bool.not_false,Bool.true_and,decide_eq_false_iff_not] at h
 exact ⟨fun e=>h (.inl e),fun e=>h (.inr e)⟩
theorem R_edge (U:List Tx) (h:openF p W b false s=false) (k:Nat):R p W b false s W.length k↔R p (W++U) b f s W.length k:=by
 obtain ⟨_,h5⟩:=open_no h
 have hgen:∀{S S':Nat→Prop} {B e:Bool},(∀k,S k↔S' k)→(∀k x,Rch p B false S k→p[k]? = some x→x.kind≠5)→∀k,Rch p B false S k↔Rch p B e S' k:=fun hS h5 k=>((rch_end h5 k).symm).trans (rch_iff hS)
 have e0:en false W.length W.length=false:=by unfold en;rfl
 have h5':∀k x,R p W b false s W.length k→p[k]? = some x→x.kind≠5:=fun k x hr hx e=>h5 ⟨k,x,hr,hx,e⟩
 cases hn:W.length with
 | zero =>
  rw [hn] at h5' e0
  have h5'':∀k x,Rch p (bg b 0) false (fun k=>s=0∧k=0) k→p[k]? = some x→x.kind≠5:=fun k x hr=>h5' k x (by show Rch p _ (en false W.length 0) _ k;rw [hn,e0];exact hr)
  show Rch p _ (en false W.length 0) _ k↔Rch p _ _ _ k
  rw [hn,e0]
  exact hgen (fun _=>Iff.rfl) h5'' k
 | succ n =>
  rw [hn] at h5' e0
  have h5'':∀k x,Rch p (bg b (n+1)) false (fun k=>(s=n+1∧k=0)∨Ov p (R p W b false s n) (W.getD n []) k) k→p[k]? = some x→x.kind≠5:=fun k x hr=>h5' k x (by show Rch p _ (en false W.length (n+1)) _ k;rw [hn,e0];exact hr)
  show Rch p _ (en false W.length (n+1)) _ k↔Rch p _ _ _ k
  rw [hn,e0]
  refine hgen (fun k=>or_congr Iff.rfl ?_) h5'' k
  rw [show (W++U).getD n []=W.getD n [] by simp [List.getD,List.getElem?_append_left (show n < W.length by omega)]]
  exact ov_iff (R_more U n (by omega)) k
theorem R_gone (U:List Tx) (hs:s≤W.length) (h:openF p W b false s=false) {i:Nat} (hi:W.length < i) (k:Nat):¬R p (W++U) b f s i k:=by
 have h1:∀k,¬R p (W++U) b f s (W.length+1) k:=fun k hr=>by
  rw [R_next hs] at hr
  refine rch_none (fun k ho=>?_) hr
  obtain ⟨j,x,g1,g2,g3,_⟩:=ho
  exact (open_no h).1 ⟨j,x,(R_edge U h j).2 g1,g2,g3⟩
 exact R_stop (i:=W.length+1) (by omega) h1 hi k
theorem lastM_more (U:List Tx) (h:openF p W b false s=false):∀i,i≤W.length+1→lastM p (W++U) b f s i=lastM p W b false s i
 | 0,_=>rfl
 | i+1,hi=>by
  have e:∀k,R p W b false s i k↔R p (W++U) b f s i k:=by
   rcases Nat.lt_or_ge i W.length with hl | hl
   ·exact R_more U i hl
   ·obtain rfl:i=W.length:=by omega
    exact R_edge U h
  by_cases hy:Any p (R p W b false s i) 6
  ·rw [lastM_yes hy,lastM_yes ((any_same e 6).1 hy)]
  ·rw [lastM_no hy,lastM_no fun k=>hy ((any_same e 6).2 k)]
   exact lastM_more U h i (by omega)
theorem long_more (U:List Tx) (z:Int) (hm:mayP p=true) (h0:0≤z) (hz:z≤W.length) (h:(longF p W b false z).2.2.1=false) (f:Bool) :
  longF p (W++U) b f z=((longF p W b false z).1,(longF p W b false z).2.1,(longF p (W++U) b f z).2.2.1,0)∧(longF p (W++U) b false z).2.2.1=false:=by
 obtain ⟨s,rfl⟩:∃s:Nat,z=s:=⟨z.toNat,by omega⟩
 have c1:mayP p=true∧0≤(s:Int)∧(s:Int)≤W.length:=⟨hm,h0,hz⟩
 have c2:mayP p=true∧0≤(s:Int)∧(s:Int)≤(W++U).length:=⟨hm,h0,by rw [List.length_append];omega⟩
 unfold longF at h ⊢
 rw [if_pos c1] at h
 rw [if_pos c1,if_pos c2,if_pos c2]
 simp only [Int.toNat_natCast] at h ⊢
 have hl:lastM p (W++U) b f s ((W++U).length+1)=lastM p W b false s (W.length+1):=by
  rw [←lastM_more (f:=f) U h _ (Nat.le_refl _)]
  have hg:=R_gone (f:=f) U (show s≤W.length by omega) h (Nat.lt_succ_self _)
  rw [lastM_stop (show s≤W.length+1 by omega) hg (show W.length+1≤(W++U).length+1 by rw [List.length_append];omega)]
 refine ⟨by rw [hl],?_⟩
 unfold openF
 rw [Bool.not_false,Bool.true_and,decide_eq_false_iff_not]
 rw [List.length_append]
 by_cases hu:U.length=0
 ·rw [hu,Nat.add_zero]
  rintro (e | e)
  ·exact (open_no h).1 ((any_same (R_edge U h) 1).2 e)
  ·exact (open_no h).2 ((any_same (R_edge U h) 5).2 e)
 ·have hg:=R_gone (f:=false) U (show s≤W.length by omega) h (show W.length < W.length+U.length by omega)
  rintro (e | e) <;> exact any_none hg e
def SpOk (p:List Ins) (W:List Tx) (q:Nat × Nat):Prop:=q.1≤q.2∧q.2≤W.length∧lastM p W true true q.1 (W.length+1)=some q.2
theorem allA_ok:∀(d s:Nat),(∀q∈allA p W d s,s≤q.1∧SpOk p W q)∧(allA p W d s).Pairwise fun q r=>q.2≤r.1∧q.1 < r.1
 | 0,s=>⟨fun q h=>(by cases h),List.Pairwise.nil⟩
 | d+1,s=>by
  unfold allA
  by_cases hl:W.length < s
  ·rw [if_pos hl];exact ⟨fun q h=>(by cases h),List.Pairwise.nil⟩
  ·rw [if_neg hl]
   cases h:lastM p W true true s (W.length+1) with
   | none =>
    obtain ⟨h1,h2⟩:=allA_ok d (s+1)
    exact ⟨fun q hq=>⟨by have:=(h1 q hq).1;omega,(h1 q hq).2⟩,h2⟩
   | some e =>
    obtain ⟨h1,h2⟩:=allA_ok d (max e (s+1))
    obtain ⟨g1,g2,_,_⟩:=lastM_some h
    refine ⟨fun q hq=>?_,.cons (fun q hq=>?_) h2⟩
    ·rcases List.mem_cons.1 hq with rfl | hq
     ·exact ⟨Nat.le_refl _,g2,by show e≤_;omega,h⟩
     ·exact ⟨by have:=(h1 q hq).1;omega,(h1 q hq).2⟩
    ·have:=(h1 q hq).1
     show e≤q.1∧s < q.1
     omega
end
end Go.Proofs.YtegdbmbenjnacaaGreat.Pike
