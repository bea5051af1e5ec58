/-
  Texts of stage 7, part 25.
-/
import Derived.RangeFuncBox
import Derived.IntWalk
import Derived.Test.YtkgeiokckfpjlaaGreatDoorK23
import Derived.Test.YtkgeiokckfpjlaaGreatDoorK24
namespace Go.Proofs.YtkgeiokckfpjlaaGreatDoor.Ucd
open Go.RowKit Utf
def Told (w:World) (l:List Int) (n:Nat) (e:Ending) (w':World):Prop:=∃A c,e=.returned (.slice A n c)∧Rd w' w'.heap.size A (nums l)∧Below w.heap.size w w'
end Go.Proofs.YtkgeiokckfpjlaaGreatDoor.Ucd
namespace Go.Proofs.YtkgeiokckfpjlaaGreatDoor.Ucd
open Go.RowKit Utf
def okB (r:Int):Bool:=decide (1≤(fullF r).length) && decide ((fullF r).length≤3) && (fullF r).all (fun x=>(pairF x).2.2 == 0) && (fullF r).tail.all (fun x=>!opn x) && (opn ((fullF r).headD 0) == opn r)
theorem fst_plain {r:Int} (h:plainB r=true):fullF r=[r]:=full_plain 3 h
theorem vowel_shut:∀i < 21,opn (4449+(i:Nat))=false:=by decide +kernel
theorem tail_shut:∀i < 28,0 < i→opn (4519+(i:Nat))=false:=by decide +kernel
theorem lead_opens:∀i < 19,opn (4352+(i:Nat))=true:=by decide +kernel
theorem shut_vowel {x:Int} (h:4449≤x) (h':x≤4469):opn x=false:=by
 have:=vowel_shut (x - 4449).toNat (by omega);rwa [show 4449+(((x - 4449).toNat:Nat):Int)=x from by omega] at this
theorem shut_tail {x:Int} (h:4520≤x) (h':x≤4546):opn x=false:=by
 have:=tail_shut (x - 4519).toNat (by omega) (by omega);rwa [show 4519+(((x - 4519).toNat:Nat):Int)=x from by omega] at this
theorem opens_lead {x:Int} (h:4352≤x) (h':x≤4370):opn x=true:=by
 have:=lead_opens (x - 4352).toNat (by omega);rwa [show 4352+(((x - 4352).toNat:Nat):Int)=x from by omega] at this
theorem full_syl {s:Int} (h0:0≤s) (h1:s≤11171):fullF (44032+s)=if s % 28=0 then [4352+s / 588,4449+s % 588 / 28] else [4352+s / 588,4449+s % 588 / 28,4519+s % 28]:=by
 by_cases hz:s % 28=0
 ·rw [if_pos hz];exact full_open 2 h0 h1 hz
 ·rw [if_neg hz];exact full_closed 1 h0 h1 hz
theorem opn_syl {s:Int} (h0:0≤s) (h1:s≤11171):opn (44032+s)=true:=by
 have hl:=opens_lead (x:=4352+s / 588) (by omega) (by omega)
 have hp:=plain_lead (x:=4352+s / 588) (by omega) (by omega)
 have e:fstF (44032+s)=4352+s / 588:=by
  rw [fstF,full_syl h0 h1]
  split <;> rfl
 have e2:fstF (4352+s / 588)=4352+s / 588:=by rw [fstF,fst_plain hp];rfl
 rw [opn,e]
 rw [opn,e2] at hl
 exact hl
theorem bottom (r:Int):okB r=true:=by
 refine kinds (fun r=>okB r=true) (fun r h=>?_) (by decide +kernel) (fun s h0 h1=>?_) (by decide +kernel) r
 ·unfold okB
  rw [fst_plain h]
  simp [plain_pair h]
 ·have a1:=plain_lead (x:=4352+s / 588) (by omega) (by omega)
  have a2:=plain_vowel (x:=4449+s % 588 / 28) (by omega) (by omega)
  have b1:=opens_lead (x:=4352+s / 588) (by omega) (by omega)
  have b2:=shut_vowel (x:=4449+s % 588 / 28) (by omega) (by omega)
  unfold okB
  rw [opn_syl h0 h1,full_syl h0 h1]
  by_cases hz:s % 28=0
  ·rw [if_pos hz]
   simp [plain_pair a1,plain_pair a2,b1,b2]
  ·rw [if_neg hz]
   have a3:=plain_tail (x:=4519+s % 28) (by omega) (by omega)
   have b3:=shut_tail (x:=4519+s % 28) (by omega) (by omega)
   simp [plain_pair a1,plain_pair a2,plain_pair a3,b1,b2,b3]
theorem bottom_parts (r:Int):1≤(fullF r).length∧(fullF r).length≤3∧(∀x∈fullF r,(pairF x).2.2=0)∧(∀x∈(fullF r).tail,opn x=false)∧opn ((fullF r).headD 0)=opn r:=by
 have h:=bottom r
 simp only [okB,Bool.and_eq_true,decide_eq_true_eq,List.all_eq_true,beq_iff_eq,Bool.not_eq_true'] at h
 obtain ⟨⟨⟨⟨h1,h2⟩,h3⟩,h4⟩,h5⟩:=h
 exact ⟨h1,h2,h3,h4,h5⟩
end Go.Proofs.YtkgeiokckfpjlaaGreatDoor.Ucd
namespace Go.Proofs.YtkgeiokckfpjlaaGreatDoor.Ucd
open Go.RowKit Go.Shelf Utf
attribute [local go_sem] Oper.semAt_some
def rstep (c:Int) (s:List (Int × Int) × Int) (x:Int × Int × Int):List (Int × Int) × Int :=
 ((if c=x.2.2 then (if c=7∧s.2 < x.1 then s.1++[(s.2,x.1 - 1)] else s.1)++[(x.1,x.2.1)] else (if c=7∧s.2 < x.1 then s.1++[(s.2,x.1 - 1)] else s.1)),x.2.1+1)
def rfold (c:Int) (rows:List (Int × Int × Int)):List (Int × Int) × Int:=rows.foldl (rstep c) ([],0)
def rangesF (c:Int):List (Int × Int):=if c=7 then (rfold c catRows).1++[((rfold c catRows).2,1114111)] else (rfold c catRows).1
def rst (c:Int) (pre:List CRow):List (Int × Int) × Int:=rfold c (pre.map (·.1))
theorem rst_next (c:Int) (pre:List CRow) (x:CRow):rst c (pre++[x])=rstep c (rst c pre) x.1:=by simp [rst,rfold]
theorem rst_len (c:Int) (pre:List CRow):(rst c pre).1.length≤2*pre.length:=by
 have:∀(l:List (Int × Int × Int)) (s:List (Int × Int) × Int),(l.foldl (rstep c) s).1.length≤s.1.length+2*l.length:=by
  intro l
  induction l with
  | nil=>intro s;simp
  | cons x t ih =>
   intro s
   have:=ih (rstep c s x)
   have h2:(rstep c s x).1.length≤s.1.length+2:=by
    unfold rstep
    dsimp only
    repeat' split
    all_goals simp
   simp only [List.foldl_cons,List.length_cons]
   omega
 have h:=this (pre.map (·.1)) ([],0)
 simpa [rst,rfold] using h
def cR (l:List (Int × Int)):List Value:=l.flatMap fun x=>[.int .i32 x.1,.int .i32 x.2]
theorem cR_append (l m:List (Int × Int)):cR (l++m)=cR l++cR m:=List.flatMap_append
theorem infoRange:(Tryz.prog.info? 48).map (fun i=>(i.zero,i.size,i.bytes))=some (some (.agg #[.int .i32 0,.int .i32 0]),2,8):=by kernel_rfl
theorem cell_two_new (W:World) (t:TypeId) (a b:Value):∀j u,[a,b][j]? = some u→(W.alloc (.cells #[a,b] t)).cell? ((⟨W.heap.size,0,none⟩:Addr).add j)=some u:=by
 intro j u hj
 have hadd:(⟨W.heap.size,0,none⟩:Addr).add j=⟨W.heap.size,0+j,none⟩:=by unfold Addr.add;split <;> simp_all
 rw [hadd,Nat.zero_add]
 exact ((Blk.new W t [a,b]).cell j).trans hj
def IR (w:World) (c:Int) (pre:List CRow) (W:World):Prop :=
 (∃v,Boxed W (w.heap.size+1) 37 v∧W.ownsRow w.heap.size 48 2 v (rst c pre).1.length (cR (rst c pre).1)∧True)∧Blk W w.heap.size 3 [.int .i64 c]∧Blk W (w.heap.size+2) 21 [.int .i32 (rst c pre).2]∧Below w.heap.size w W
def AxR (w:World) (c:Int) (x:CRow) (a':Act) (W:World):Prop :=
 ∃B,w.heap.size+2 < B∧Blk W B 251 [.int .i32 x.1.1,.int .i32 x.1.2.1,.int .i32 x.1.2.2] ∧
  a'={ tmps:=#[.int .i64 c,.pointer (some ⟨w.heap.size,0,none⟩),.slice none 0 0,.pointer (some ⟨w.heap.size+1,0,none⟩),.pointer (some ⟨w.heap.size+2,0,none⟩),.pointer (some ⟨B,0,none⟩),.agg #[.int .i32 x.1.1,.int .i32 x.1.2.1,.int .i32 x.1.2.2],undef,undef,undef,undef,undef,undef,undef,undef,undef,undef,undef,undef,undef,undef,undef,undef,undef,undef,undef,undef,undef,undef,undef,undef,undef,undef,undef,undef,undef,undef,undef,undef,undef,undef,undef,undef,undef,undef,undef,undef],defers:=[] }
theorem IR_of {w W:World} {c N N0:Int} {pre:List CRow} {ls:List (Int × Int)} {v:Value} (hN:rst c pre=(ls,N)) (H1:Boxed W (w.heap.size+1) 37 v) (HR:W.ownsRow w.heap.size 48 2 v ls.length (cR ls))
  (H0:Blk W w.heap.size 3 [.int .i64 c]) (H2:Blk W (w.heap.size+2) 21 [.int .i32 N0]) (HB:Below w.heap.size w W):IR w c pre (W.setCell ⟨w.heap.size+2,0,none⟩ (.int .i32 N)):=by
 unfold IR
 rw [hN]
 exact ⟨⟨v,H1.other (by omega) _,HR.kept (grownBy_setCell' W _ _) (.inr (own_ne HR H2 (by decide))),trivial⟩,H0.far (by show w.heap.size≠w.heap.size+2;omega) _,H2.set_ 0 _,HB.setCell (p:=⟨w.heap.size+2,0,none⟩) (by simp) _⟩
set_option maxRecDepth 100000 in
set_option maxHeartbeats 8000000 in
theorem ranges_in (c:Int) (w:World) (hL:Laid w) :
  CallsIn Fence.wide 4 Tryz.prog 256 #[.int .i64 c] w fun e w'=>∃v,e=.returned v∧w'.ownsRow w.heap.size 48 2 v (rangesF c).length (cR (rangesF c))∧Below w.heap.size w w':=by
 have h1:1≤4:=by omega
 obtain ⟨i0,hi0,hz0,hz1,hz2⟩:=info_parts infoRange
 refine callsIn_of_wp_marks Tryz.func256 rfl trivial ?_ rfl
 simp only [Tryz.ntmps256,List.size_toArray,List.length_cons,List.length_nil,Nat.reduceAdd,Nat.reduceSub,Array.replicate_succ,Array.replicate_zero,List.push_toArray,List.append_toArray,List.nil_append,List.cons_append]
 gi_wp2
 obtain ⟨W0,hW0⟩:∃W0,W0=(((w.alloc (.cells #[.int .i64 c] 3)).alloc (.cells #[.slice none 0 0] 37)).alloc (.cells #[.int .i32 0] 21)):=⟨_,rfl⟩
 have b0:Blk W0 w.heap.size 3 [.int .i64 c]:=by rw [hW0];exact ((Blk.new w _ [.int .i64 c]).alloc _).alloc _
 have b1:Boxed W0 (w.heap.size+1) 37 (.slice none 0 0):=by
  have:=Boxed.new (w.alloc (.cells #[.int .i64 c] 3)) 37 (.slice none 0 0)
  rw [World.size_alloc] at this
  rw [hW0];exact this.alloc _
 have b2:Blk W0 (w.heap.size+2) 21 [.int .i32 0]:=by
  have:=Blk.new ((w.alloc (.cells #[.int .i64 c] 3)).alloc (.cells #[.slice none 0 0] 37)) 21 [.int .i32 0]
  rw [World.size_alloc,World.size_alloc] at this
  rw [hW0];exact this
 have hB0:Below w.heap.size w W0:=by rw [hW0];exact (((Below.refl _ w).alloc (Nat.le_refl _) _).alloc (by simp) _).alloc (by simp;omega) _
 have hsz0:W0.heap.size=w.heap.size+3:=by rw [hW0];simp
 have hL0:Laid W0:=hL.next hB0
 have hsz:=hL.size
 rw [←hW0]
 clear hW0
 refine wpIn_rangeFunc_ownH rfl h1 (gf:=287) (lb:=#[]) rfl trivial (enters_of Tryz.func287 (by kernel_rfl) rfl)
  (stretches_stops Fence.wide (4 - 1) trivial rfl (by omega) _ hL0) belowK_t (belowK_b (by omega)) (Below.refl _ _) (fun _=>rfl)
  (IR w c) (fun _ _ _=>False)
  ?i (fun _ _ _ _ _ hs _ _=>hs)
  ⟨⟨_,b1,World.ownsRow_nil _ _ _ _,trivial⟩,b0,b2,hB0⟩
  (AxR w c) ?ax ?assign ?body ?done ?stop
 case i =>
  exact OwnFrom.and (Own.from (holdsRow_own _ _ _ _ _ (fun pre=>(rst c pre).1.length) (fun pre=>cR (rst c pre).1) (fun _ _=>True)) _) (OwnFrom.and (blk_own _ _ _ _) (OwnFrom.and (fun s A B row hs hg hr=>blk_own _ _ _ _ () A B row hs hg hr) (ownFrom_below (Nat.le_refl _) (by omega))))
 case ax =>
  rintro x a' u A B row ⟨Bx,h1,h2,h3⟩ hg hr
  exact ⟨Bx,h1,blk_own _ _ _ _ () A B row h2 hg hr,h3⟩
 case assign =>
  rintro l pre ⟨⟨lo,hi,v⟩,hm⟩ W K ⟨⟨v0,i1,hr,_⟩,i0',i2,hB⟩ hK
  dsimp only [encRow]
  gi_wp2
  have hs:=i2.lt
  exact hK _ _ ((KeepsOthers.alloc _ _).from _) ((Below.refl _ W).alloc (by omega) _) ⟨⟨v0,i1.alloc _,hr.alloc _,trivial⟩,i0'.alloc _,i2.alloc _,hB.alloc hB.size _⟩ ⟨W.heap.size,hs,Blk.new W _ _,rfl⟩
 case body =>
  rintro l pre ⟨⟨lo,hi,v⟩,hm⟩ a' W hl ⟨rr,hrr⟩ ⟨⟨v0,i1,hrow,_⟩,i0',i2,hB⟩ ⟨B,hBB,bX,rfl⟩ hlen
  have x0:W.cell? ⟨B,0,none⟩=some (.int .i32 lo):=bX.cell 0
  have x1:W.cell? ⟨B,1,none⟩=some (.int .i32 hi):=bX.cell 1
  have x2:W.cell? ⟨B,2,none⟩=some (.int .i32 v):=bX.cell 2
  have hcC:W.cell? ⟨w.heap.size,0,none⟩=some (.int .i64 c):=i0'.cell 0
  have hcL:W.cell? ⟨w.heap.size+1,0,none⟩=some v0:=i1.cell
  have hfL:W.frozen? ⟨w.heap.size+1,0,none⟩=false:=i1.frozen
  have hcN:W.cell? ⟨w.heap.size+2,0,none⟩=some (.int .i32 (rst c pre).2):=i2.cell 0
  have hfN:W.frozen? ⟨w.heap.size+2,0,none⟩=false:=i2.frozen 0
  have hnl:=rst_len c pre
  have HN:=Lib.hid (rst_next c pre ⟨(lo,hi,v),hm⟩)
  have hbd:0≤lo∧lo≤200000∧0≤hi∧hi≤200000∧1≤v∧v≤6:=by
   have:∀x∈catRows,0≤x.1∧x.1≤200000∧0≤x.2.1∧x.2.1≤200000∧1≤x.2.2∧x.2.2≤6:=by decide +kernel
   exact this _ hm
  obtain ⟨d1,d2,d3,d4,d5,d6⟩:=hbd
  generalize hs:rst c pre=s at hcN hnl HN hrow i2
  obtain ⟨ls,N⟩:=s
  dsimp only at hcN hnl hrow i2
  have H1:=Lib.hid i1;have H0:=Lib.hid i0';have H2:=Lib.hid i2;have HR:=Lib.hid hrow;have HBW:=Lib.hid hB;have HX:=Lib.hid bX
  have hle:w.heap.size≤W.heap.size:=hB.size
  have hn1:B≠w.heap.size+1:=by omega
  have hn2:B≠w.heap.size+2:=by omega
  clear i1 i0' i2 hrow hB bX hrr hs
  by_cases h7:c=7
  ·subst h7
   have hv7:((7:Int) == v)=false:=by simp;omega
   have HV7:=Lib.hid (show ¬(7:Int)=v by omega)
   by_cases hlt:N < lo
   ·have e1:IntKind.i32.wrap (lo - 1)=lo - 1:=IntWalk.i32_in _ (by omega)
    have HLT:=Lib.hid hlt
    gi_wp2_with (gi_at_builtin;refine wpListIn_append_own _ rfl (.tmp 15) (.tmp 21) _ rfl w.heap.size 48 i0 _ 2 8 Tryz.underlying37 hi0 hz0 hz1 hz2 rfl (by decide) _ ls.length (cR ls) rfl (HR.out.alloc _) ⟨W.heap.size,0,none⟩ 1 1 [.int .i32 N,.int .i32 (lo - 1)] rfl rfl (cell_two_new _ _ _ _) (by intro u hu;simp only [List.mem_cons,List.not_mem_nil,or_false] at hu;rcases hu with rfl | rfl <;> rfl) (by unfold maxLen;omega) (by omega) (by simp;omega) ?_;intro v' w1 hown' hgrow _;obtain ⟨g',cap',rfl⟩:=ownsRow_succ hown';obtain ⟨hv1,hv2,hr2,hk2,hb2⟩:=H1.out.appended (by decide) HR.out hle (by omega) hown' hgrow;have hc1:=hv1.cell;have hf1:=hv1.frozen;have q0:=(H0.out.alloc _).grown hgrow (own_ne HR.out H0.out (by decide)).symm;have q2:=(H2.out.alloc _).grown hgrow (own_ne HR.out H2.out (by decide)).symm;have qX:=(HX.out.alloc _).grown hgrow (own_ne HR.out HX.out (by decide)).symm;have y0:w1.cell? ⟨w.heap.size,0,none⟩=some (.int .i64 7):=q0.cell 0;have y1:w1.cell? ⟨B,1,none⟩=some (.int .i32 hi):=qX.cell 1;have y2:w1.cell? ⟨B,2,none⟩=some (.int .i32 v):=qX.cell 2;have y3:w1.cell? ⟨w.heap.size+2,0,none⟩=some (.int .i32 N):=q2.cell 0;have y4:w1.frozen? ⟨w.heap.size+2,0,none⟩=false:=q2.frozen 0;have Q0:=Lib.hid q0;have Q2:=Lib.hid q2;have V2:=Lib.hid hv2;have R2:=Lib.hid hr2;have K2:=Lib.hid hk2;have B2:=Lib.hid hb2;clear q0 q2 qX hv1 hv2 hr2 hk2 hb2 hown' hgrow)
    exact ⟨(K2.out.trans (KeepsOthers.setCell _ _ _)).from _,(B2.out.mono (by omega)).setCell (p:=⟨w.heap.size+2,0,none⟩) (by show 8+1≤w.heap.size+2;omega) _,IR_of (ls:=ls++[(N,lo - 1)]) (by rw [HN.out];simp only [rstep];rw [if_neg HV7.out,if_pos ⟨trivial,HLT.out⟩]) V2.out (by rw [List.length_append,cR_append];exact R2.out) (Q0.out.far (by show w.heap.size≠w.heap.size+1;omega) _) (Q2.out.far (by show w.heap.size+2≠w.heap.size+1;omega) _) (HBW.out.trans B2.out)⟩
   ·have HLT:=Lib.hid hlt
    gi_wp2
    exact ⟨(KeepsOthers.setCell _ _ _).from _,(Below.refl (8+1) W).setCell (p:=⟨w.heap.size+2,0,none⟩) (by show 8+1≤w.heap.size+2;omega) _,IR_of (by rw [HN.out];simp only [rstep];rw [if_neg HV7.out,if_neg (fun h=>by have:=h.2;have:=HLT.out;omega)]) H1.out HR.out H0.out H2.out HBW.out⟩
  ·have h7':(c == 7)=false:=by simpa using h7
   have H7:=Lib.hid h7
   clear h7
   by_cases hv:c=v
   ·have hv':(c == v)=true:=by simpa using hv
    have HV:=Lib.hid hv
    clear hv
    gi_wp2_with (gi_at_builtin;refine wpListIn_append_own _ rfl (.tmp 28) (.tmp 34) _ rfl w.heap.size 48 i0 _ 2 8 Tryz.underlying37 hi0 hz0 hz1 hz2 rfl (by decide) _ ls.length (cR ls) rfl (HR.out.alloc _) ⟨W.heap.size,0,none⟩ 1 1 [.int .i32 lo,.int .i32 hi] rfl rfl (cell_two_new _ _ _ _) (by intro u hu;simp only [List.mem_cons,List.not_mem_nil,or_false] at hu;rcases hu with rfl | rfl <;> rfl) (by unfold maxLen;omega) (by omega) (by simp;omega) ?_;intro v' w1 hown' hgrow _;obtain ⟨g',cap',rfl⟩:=ownsRow_succ hown';obtain ⟨hv1,hv2,hr2,hk2,hb2⟩:=H1.out.appended (by decide) HR.out hle (by omega) hown' hgrow;have hc1:=hv1.cell;have hf1:=hv1.frozen;have q0:=(H0.out.alloc _).grown hgrow (own_ne HR.out H0.out (by decide)).symm;have q2:=(H2.out.alloc _).grown hgrow (own_ne HR.out H2.out (by decide)).symm;have qX:=(HX.out.alloc _).grown hgrow (own_ne HR.out HX.out (by decide)).symm;have y0:w1.cell? ⟨w.heap.size,0,none⟩=some (.int .i64 c):=q0.cell 0;have y1:w1.cell? ⟨B,1,none⟩=some (.int .i32 hi):=qX.cell 1;have y2:w1.cell? ⟨B,2,none⟩=some (.int .i32 v):=qX.cell 2;have y3:w1.cell? ⟨w.heap.size+2,0,none⟩=some (.int .i32 N):=q2.cell 0;have y4:w1.frozen? ⟨w.heap.size+2,0,none⟩=false:=q2.frozen 0;have Q0:=Lib.hid q0;have Q2:=Lib.hid q2;have V2:=Lib.hid hv2;have R2:=Lib.hid hr2;have K2:=Lib.hid hk2;have B2:=Lib.hid hb2;clear q0 q2 qX hv1 hv2 hr2 hk2 hb2 hown' hgrow)
    exact ⟨(K2.out.trans (KeepsOthers.setCell _ _ _)).from _,(B2.out.mono (by omega)).setCell (p:=⟨w.heap.size+2,0,none⟩) (by show 8+1≤w.heap.size+2;omega) _,IR_of (ls:=ls++[(lo,hi)]) (by rw [HN.out];simp only [rstep];rw [if_pos HV.out,if_neg (fun h=>H7.out h.1)]) V2.out (by rw [List.length_append,cR_append];exact R2.out) (Q0.out.far (by show w.heap.size≠w.heap.size+1;omega) _) (Q2.out.far (by show w.heap.size+2≠w.heap.size+1;omega) _) (HBW.out.trans B2.out)⟩
   ·have hv':(c == v)=false:=by simpa using hv
    have HV:=Lib.hid hv
    clear hv
    gi_wp2
    exact ⟨(KeepsOthers.setCell _ _ _).from _,(Below.refl (8+1) W).setCell (p:=⟨w.heap.size+2,0,none⟩) (by show 8+1≤w.heap.size+2;omega) _,IR_of (by rw [HN.out];simp only [rstep];rw [if_neg HV.out,if_neg (fun h=>H7.out h.1)]) H1.out HR.out H0.out H2.out HBW.out⟩
 case done =>
  rintro D xs W hD rfl ⟨⟨v0,i1,hrow,_⟩,i0',i2,hB⟩ hK
  have hcC:W.cell? ⟨w.heap.size,0,none⟩=some (.int .i64 c):=i0'.cell 0
  have hcL:W.cell? ⟨w.heap.size+1,0,none⟩=some v0:=i1.cell
  have hfL:W.frozen? ⟨w.heap.size+1,0,none⟩=false:=i1.frozen
  have hcN:W.cell? ⟨w.heap.size+2,0,none⟩=some (.int .i32 (rst c allRows).2):=i2.cell 0
  have hnl:=rst_len c allRows
  have hal:allRows.length=72:=by rw [allRows,List.length_attach];rfl
  have HS:=Lib.hid (show rst c allRows=rfold c catRows by rw [rst,all_map])
  generalize rst c allRows=s at hcN hnl hrow i2 HS
  obtain ⟨ls,N⟩:=s
  dsimp only at hcN hnl hrow i2
  have H1:=Lib.hid i1;have HR:=Lib.hid hrow;have HBW:=Lib.hid hB;have HK:=Lib.hid hK
  have hle:w.heap.size≤W.heap.size:=hB.size
  rw [hal] at hnl
  clear i1 i0' i2 hrow hB hK hal
  by_cases h7:c=7
  ·subst h7
   have HE:=Lib.hid (show rangesF 7=ls++[(N,1114111)] by rw [rangesF,←HS.out];rfl)
   gi_wp2_with (gi_at_builtin;refine wpListIn_append_own _ rfl (.tmp 41) (.tmp 44) _ rfl w.heap.size 48 i0 _ 2 8 Tryz.underlying37 hi0 hz0 hz1 hz2 rfl (by decide) _ ls.length (cR ls) rfl (HR.out.alloc _) ⟨W.heap.size,0,none⟩ 1 1 [.int .i32 N,.int .i32 1114111] rfl rfl (cell_two_new _ _ _ _) (by intro u hu;simp only [List.mem_cons,List.not_mem_nil,or_false] at hu;rcases hu with rfl | rfl <;> rfl) (by unfold maxLen;omega) (by omega) (by simp;omega) ?_;intro v' w1 hown' hgrow _;obtain ⟨g',cap',rfl⟩:=ownsRow_succ hown';obtain ⟨hv1,hv2,hr2,hk2,hb2⟩:=H1.out.appended (by decide) HR.out hle (by omega) hown' hgrow;have hc1:=hv1.cell;have hf1:=hv1.frozen;have V2:=Lib.hid hv2;have R2:=Lib.hid hr2;have K2:=Lib.hid hk2;have B2:=Lib.hid hb2;clear hv1 hv2 hr2 hk2 hb2 hown' hgrow)
   have hK':=K2.out.same D _ HK.out rfl
   refine ⟨by simp,.inl ⟨_,_,rfl,run_takeDeferred hK',?_⟩⟩
   refine ⟨_,results_tmp rfl _ _ _,_,rfl,?_,?_⟩
   ·rw [HE.out,List.length_append,cR_append]
    exact ownsRow_putObj R2.out _ hK' rfl
   ·exact (HBW.out.trans B2.out).trans (belowK_b (w:=w) (Nat.le_refl _) _ D _ _ (by omega) hK' rfl rfl)
  ·have h7':(c == 7)=false:=by simpa using h7
   have HE:=Lib.hid (show rangesF c=ls by rw [rangesF,if_neg h7,←HS.out])
   clear h7
   gi_wp2
   refine ⟨by simp,.inl ⟨_,_,rfl,run_takeDeferred HK.out,?_⟩⟩
   refine ⟨_,results_tmp rfl _ _ _,_,rfl,?_,?_⟩
   ·rw [HE.out]
    exact ownsRow_putObj HR.out _ HK.out rfl
   ·exact HBW.out.trans (belowK_b (w:=w) (Nat.le_refl _) _ D _ _ (by omega) HK.out rfl rfl)
 case stop =>
  rintro D c pre W _ _ h _
  exact h.elim
def Rgs (w:World) (l:List (Int × Int)) (e:Ending) (w':World):Prop:=∃v,e=.returned v∧w'.ownsRow w.heap.size 48 2 v l.length (cR l)∧Below w.heap.size w w'
theorem ranges_any (c:Int) (w:World) (hL:Laid w):Calls Tryz.prog 256 #[.int .i64 c] w (Rgs w (rangesF c)):=callsIn_wide.1 (ranges_in c w hL)
end Go.Proofs.YtkgeiokckfpjlaaGreatDoor.Ucd
