/-
  Texts of stage 7, part 28.
-/
import Derived.Test.YtegdbmbenjnacaaGreatR18
import Derived.Test.YtegdbmbenjnacaaGreatR27
import Derived.Test.YtegdbmbenjnacaaGreatR31
namespace Go.Proofs.YtegdbmbenjnacaaGreat.Pike
open Go.RowKit Mem
open Sset (St Tx Has3 NmS Short txs ofS ofS_nm OwnS argR_own argT_own has3_none none_ rd_tx rd_form_tx none_nm rof_any mk_toList)
open Rset (rgs)
open Seg (Sg sgs spS spE RSplit rsplit_any rtexts_any TextsAns strs)
open Prg (Ins PR CompT compileF rcompile_any)
open Syn (Nd nd ndS ndR NV nvs nvs_len nvs_get nvs_snoc nv_one rd_nv nv_form Means ArgN)
set_option maxRecDepth 100000
structure Pat (l:List UInt8) (T:List Tx) (N:List Nd):Prop where
 e:spE 64 l=0
 t:(spS 64 l).map Sg.t=T.map fun x=>⟨x.toArray⟩
 few:Few T
 sm:T.length≤4096
 rd:∃F,read T F (.choice 0 0)=some (N,T.length)
 nsm:N.length≤1000000
theorem strs_txs (T:List Tx):strs (T.map fun x=>⟨x.toArray⟩)=txs T:=by unfold strs txs;rw [List.map_map];rfl
def Parsed (w:World) (N:List Nd) (e:Ending) (w':World):Prop :=
 ∃v V,e=.returned (.tuple #[v,.int .i64 0,.int .i64 0])∧Nr w' w.heap.size v V N∧Below w.heap.size w w'
set_option maxHeartbeats 8000000 in
theorem rparse_few {l:List UInt8} {T:List Tx} {N:List Nd} (hP:Pat l T N) {A:Option Addr} {m c:Nat} {w:World} (hr:Utf.Rd w w.heap.size A (Utf.bys l)) (hm:l.length=m) (hsm:m≤134217728) :
  Calls Tryz.prog 18 #[.slice A m c] w (Parsed w N):=by
 have HS:=Lib.hid (rsplit_any 64 l A m c w hr hm hsm)
 have HP:=Lib.hid hP
 obtain ⟨n,hn⟩:∃n,T.length=n:=⟨_,rfl⟩
 have HN:=Lib.hid hn
 have hn1:n≤4096:=hn ▸ hP.sm
 have d1:¬(4096:Int) < n:=by omega
 have d2:decide ((4096:Int) < (n:Int))=false:=decide_eq_false d1
 clear hr hP hn
 go_enter Tryz.func18,Tryz.ntmps18
 go_wp2_with fail
 refine HS.out.mono ?_
 rintro e w1 ⟨A1,n1,c1,rfl,hl1,hr1,hb1⟩
 rw [HP.out.e]
 have hlen:(spS 64 l).length=T.length:=by have:=congrArg List.length HP.out.t;rwa [List.length_map,List.length_map] at this
 rw [hlen,HN.out] at hl1
 subst hl1
 have HTX:=Lib.hid (rtexts_any A1 (spS 64 l) n1 c1 w1 hr1 (hlen.trans HN.out) (by omega))
 have HB1:=Lib.hid hb1
 clear hr1 hb1 HS hlen
 go_wp2_with fail
 refine HTX.out.mono ?_
 rintro e w2 ⟨v2,rfl,ho2,hb2⟩
 rw [HP.out.t,strs_txs,List.length_map,HN.out] at ho2
 obtain ⟨A2,c2,rfl,_,_,hr2⟩:=own_form ho2
 have HB2:=Lib.hid (HB1.out.trans (hb2.mono HB1.out.size))
 have HTZ:=Lib.hid (show Tz w2 A2 n1 T from ⟨hr2,HN.out,HP.out.few,hn1⟩)
 obtain ⟨F,hF⟩:=HP.out.rd
 obtain ⟨u,hu⟩:∃u,u=w2.alloc (.cells #[.slice A2 n1 c2,.int .i64 0,.int .i64 0,.int .i64 0] 91):=⟨_,rfl⟩
 have hps:Ps w2 u w2.heap.size A2 n1 c2 0:=by
  rw [hu];exact ⟨Blk.new w2 _ _,Nat.le_refl _,(Below.refl _ _).alloc (Nat.le_refl _) _⟩
 have HCH:=Lib.hid ((does_all (sb:=w2.heap.size) (c:=c2) HTZ.out F (.choice 0 0) hF HP.out.nsm) (Nat.zero_le _) u hps)
 have HU:=Lib.hid hu
 have HPS:=Lib.hid hps
 rw [HN.out] at HCH
 have hus:w2.heap.size≤u.heap.size:=by rw [hu];simp
 clear ho2 hr2 hb2 hF HTX hu hps HB1
 go_wp2_with fail
 rw [←HU.out]
 refine HCH.out.mono ?_
 rintro e w3 ⟨v3,V3,rfl,hn3,hp3,hc3⟩
 have q0:=hp3.c0;have q1:=hp3.c1;have q2:=hp3.c2
 have f0:=hp3.fr 0;have f1:=hp3.fr 1;have f2:=hp3.fr 2
 have g1:¬(n1:Int) < n1:=by omega
 have g2:decide ((n1:Int) < (n1:Int))=false:=decide_eq_false g1
 have HN3:=Lib.hid hn3
 have HB3:=Lib.hid (show Below w.heap.size w w3 from HB2.out.trans (hp3.bel.mono HB2.out.size))
 have hwu:w.heap.size≤u.heap.size:=Nat.le_trans HB2.out.size hus
 clear hn3 hp3 hc3 HU HCH HPS
 go_wp2_with fail
 go_quiet (fail)
 go_wp2_with fail
 go_ret3
 exact ⟨_,_,rfl,(HN3.out.base hwu).next (below_drewN (Below.refl _ _) _),below_drewN HB3.out _⟩
def Pattd (w:World) (p:List Ins) (e:Ending) (w':World):Prop :=
 ∃v V,e=.returned (.tuple #[v,.int .i64 0,.int .i64 0])∧PR w.heap.size w' v V p∧Below w.heap.size w w'
set_option maxHeartbeats 8000000 in
theorem rpattern_few {l:List UInt8} {T:List Tx} {N:List Nd} {p:List Ins} (hP:Pat l T N) (hC:compileF N=.ok p) {A:Option Addr} {m c:Nat} {w:World} (hr:Utf.Rd w w.heap.size A (Utf.bys l)) (hm:l.length=m) (hsm:m≤134217728) :
  Calls Tryz.prog 44 #[.slice A m c] w (Pattd w p):=by
 have HP:=Lib.hid (rparse_few (c:=c) hP hr hm hsm)
 obtain ⟨n,hn⟩:∃n,N.length=n:=⟨_,rfl⟩
 have HN:=Lib.hid hn
 have hn1:n≤1000000:=hn ▸ hP.nsm
 have HCF:=Lib.hid hC
 clear hr hP hn hC
 go_enter Tryz.func44,Tryz.ntmps44
 go_wp2_with fail
 refine HP.out.mono ?_
 rintro e w1 ⟨v1,V1,rfl,hr1,hb1⟩
 obtain ⟨A1,c1,rfl,ha1⟩:=hr1.arg HN.out (by omega)
 have HCT:=Lib.hid (rcompile_any (c:=c1) ha1 (by omega))
 rw [HCF.out] at HCT
 have HB1:=Lib.hid hb1
 clear ha1 hr1 hb1 HP
 go_wp2_with fail
 refine HCT.out.mono ?_
 rintro e w2 ⟨v2,V2,rfl,hp2,hb2⟩
 have HB2:=Lib.hid (HB1.out.trans (hb2.mono HB1.out.size))
 have HP2:=Lib.hid (show PR w.heap.size w2 v2 V2 p from ⟨own_mono hp2.own HB1.out.size,hp2.ms⟩)
 clear hp2 hb2 HCT
 go_wp2_with fail
 go_ret3
 exact ⟨_,_,rfl,HP2.out,HB2.out⟩
end Go.Proofs.YtegdbmbenjnacaaGreat.Pike
namespace Go.Proofs.YtegdbmbenjnacaaGreat.Pike
open Go.RowKit Mem
open Sset (St Tx NmS normS normS_id hasS memS onesS ofS ofS_nm none_ none_nm good)
open Prg (Ins iS iSp iJ iO nxt Rch mayP okP compileF codeF)
open Syn (Nd nd ndS ndR mayF mayL mayStep)
set_option maxRecDepth 100000
set_option linter.unusedSimpArgs false
def nxB (p:List Ins) (b e:Bool) (i:Nat):List Nat:=match p[i]? with
 | some x=>if x.kind=2 then [x.mn.toNat,x.mx.toNat] else if x.kind=3 then [x.mn.toNat] else if x.kind=4 then (if b then [i+1] else []) else if x.kind=5 then (if e then [i+1] else []) else []
 | none=>[]
def nneg (p:List Ins):Bool:=p.all fun x=>decide (0≤x.mn∧0≤x.mx)
theorem nxt_iff {p:List Ins} (hn:nneg p=true) {b e:Bool} {i j:Nat}:nxt p b e i j↔j∈nxB p b e i:=by
 unfold nxt nxB
 cases hx:p[i]? with
 | none =>
  constructor
  ·rintro ⟨x,h,_⟩;cases h
  ·intro h;cases h
 | some x =>
  obtain ⟨hi,rfl⟩:=List.getElem?_eq_some_iff.1 hx
  have h0:0≤p[i].mn∧0≤p[i].mx:=of_decide_eq_true (List.all_eq_true.1 hn _ (List.getElem_mem hi))
  generalize p[i]=x at *
  have q1:∀z:Int,0≤z→((j:Int)=z↔j=z.toNat):=fun z hz=>by omega
  dsimp only
  split
  ·rename_i hk
   constructor
   ·rintro ⟨y,hy,h⟩
    injection hy with hy;subst hy
    rcases h with ⟨_,h | h⟩ | ⟨h,_⟩ | ⟨h,_⟩ | ⟨h,_⟩
    ·simp [(q1 _ h0.1).1 h]
    ·simp [(q1 _ h0.2).1 h]
    all_goals omega
   ·intro h
    simp at h
    exact ⟨x,rfl,.inl ⟨hk,h.imp (q1 _ h0.1).2 (q1 _ h0.2).2⟩⟩
  ·rename_i hk
   split
   ·rename_i hk3
    constructor
    ·rintro ⟨y,hy,h⟩
     injection hy with hy;subst hy
     rcases h with ⟨h,_⟩ | ⟨_,h⟩ | ⟨h,_⟩ | ⟨h,_⟩
     ·omega
     ·simp [(q1 _ h0.1).1 h]
     all_goals omega
    ·intro h
     simp at h
     exact ⟨x,rfl,.inr (.inl ⟨hk3,(q1 _ h0.1).2 h⟩)⟩
   ·rename_i hk3
    split
    ·rename_i hk4
     constructor
     ·rintro ⟨y,hy,h⟩
      injection hy with hy;subst hy
      rcases h with ⟨h,_⟩ | ⟨h,_⟩ | ⟨_,h,h2⟩ | ⟨h,_⟩
      ·omega
      ·omega
      ·rw [if_pos h];simp [h2]
      ·omega
     ·intro h
      split at h
      ·simp at h
       exact ⟨x,rfl,.inr (.inr (.inl ⟨hk4,‹_›,h⟩))⟩
      ·cases h
    ·rename_i hk4
     split
     ·rename_i hk5
      constructor
      ·rintro ⟨y,hy,h⟩
       injection hy with hy;subst hy
       rcases h with ⟨h,_⟩ | ⟨h,_⟩ | ⟨h,_⟩ | ⟨_,h,h2⟩
       ·omega
       ·omega
       ·omega
       ·rw [if_pos h];simp [h2]
      ·intro h
       split at h
       ·simp at h
        exact ⟨x,rfl,.inr (.inr (.inr ⟨hk5,‹_›,h⟩))⟩
       ·cases h
     ·rename_i hk5
      refine ⟨?_,fun h=>by cases h⟩
      rintro ⟨y,hy,h⟩
      injection hy with hy;subst hy
      rcases h with ⟨h,_⟩ | ⟨h,_⟩ | ⟨h,_⟩ | ⟨h,_⟩ <;> omega
def genB (p:List Ins) (b e:Bool) (O:List Nat):List Nat→List Nat→Bool
 | _,[]=>true
 | D,k :: r=>(decide (k∈O∧k < p.length) || D.any fun i=>decide (k∈nxB p b e i)) && genB p b e O (k :: D) r
def clB (p:List Ins) (b e:Bool) (O L:List Nat):Bool:=nneg p && O.all (fun k=>decide (k∈L)) && L.all (fun i=>(nxB p b e i).all fun k=>decide (k∈L)) && genB p b e O [] L
theorem gen_ok {p:List Ins} (hn:nneg p=true) {b e:Bool} {O:List Nat} {S:Nat→Prop} (hS:∀k,S k↔k∈O):∀(L D:List Nat),(∀k∈D,Rch p b e S k)→genB p b e O D L=true→∀k∈L,Rch p b e S k
 | [],_,_,_,k,h=>by cases h
 | a :: r,D,hD,h,k,hk=>by
  unfold genB at h
  rw [Bool.and_eq_true,Bool.or_eq_true,decide_eq_true_eq,List.any_eq_true] at h
  have ha:Rch p b e S a:=by
   rcases h.1 with ⟨h1,h2⟩ | ⟨i,h1,h2⟩
   ·exact .here h2 ((hS a).2 h1)
   ·exact .step (hD i h1) ((nxt_iff hn).2 (of_decide_eq_true h2))
  rcases List.mem_cons.1 hk with rfl | hk
  ·exact ha
  ·exact gen_ok hn hS r (a :: D) (fun q hq=>(List.mem_cons.1 hq).elim (fun e=>e ▸ ha) (hD q)) h.2 k hk
theorem cl_ok {p:List Ins} {b e:Bool} {O L:List Nat} {S:Nat→Prop} (hS:∀k,S k↔k∈O) (h:clB p b e O L=true) (k:Nat):k∈L↔Rch p b e S k:=by
 unfold clB at h
 rw [Bool.and_eq_true,Bool.and_eq_true,Bool.and_eq_true,List.all_eq_true,List.all_eq_true] at h
 obtain ⟨⟨⟨hn,h1⟩,h2⟩,h3⟩:=h
 refine ⟨gen_ok hn hS L [] (fun k h=>by cases h) h3 k,fun hr=>hr.in (O:=fun k=>k∈L) (fun i _ hi=>of_decide_eq_true (h1 i ((hS i).1 hi))) (fun i j hi hj=>?_)⟩
 exact of_decide_eq_true (List.all_eq_true.1 (h2 i hi) j ((nxt_iff hn).1 hj))
def ovB (p:List Ins) (L:List Nat) (x:Tx):List Nat:=L.filterMap fun i=>match p[i]? with
 | some s=>if s.kind=1 then (if hasS s.set x=true then some (i+1) else none) else none
 | none=>none
theorem ov_ok {p:List Ins} {L:List Nat} {O:Nat→Prop} (hL:∀k,k∈L↔O k) (x:Tx) (k:Nat):Ov p O x k↔k∈ovB p L x:=by
 unfold Ov ovB
 rw [List.mem_filterMap]
 constructor
 ·rintro ⟨i,s,h1,h2,h3,h4,rfl⟩
  refine ⟨i,(hL i).2 h1,?_⟩
  rw [h2];dsimp only;rw [if_pos h3,if_pos h4]
 ·rintro ⟨i,h1,h2⟩
  cases hx:p[i]? with
  | none=>rw [hx] at h2;cases h2
  | some s =>
   rw [hx] at h2;dsimp only at h2
   split at h2
   ·rename_i h3
    split at h2
    ·rename_i h4
     injection h2 with h2
     exact ⟨i,s,(hL i).1 h1,hx,h3,h4,h2.symm⟩
    ·cases h2
   ·cases h2
section
variable {p:List Ins} {W:List Tx} {b f:Bool} {s:Nat}
theorem R_list0 {L:List Nat} (h:clB p (bg b s) (en f W.length s) [0] L=true) (k:Nat):k∈L↔R p W b f s s k:=(cl_ok (fun k=>by simp) h k).trans (R_here k).symm
theorem R_list {i:Nat} {L O M:List Nat} {x:Tx} (hL:∀k,k∈L↔R p W b f s i k) (hi:s≤i) (hx:W.getD i []=x) (ho:ovB p L x=O) (h:clB p (bg b (i+1)) (en f W.length (i+1)) O M=true) (k:Nat):k∈M↔R p W b f s (i+1) k :=
 (cl_ok (fun k=>by rw [hx,ov_ok hL,ho]) h k).trans (R_next hi k).symm
end
noncomputable def aS:St:=ofS [97]
noncomputable def bS:St:=ofS [98]
theorem ones_has (l:List Rset.Rg) (t:Tx):hasS (onesS l) t=hasS ⟨l,[],[]⟩ t:=by
 unfold hasS memS onesS
 simp only [Rset.norm_has]
theorem of_one {x:Tx} (h:(good x && decide ((Sset.pnts x).length=1))=true):ofS x=onesS [(Sset.fst x,Sset.fst x)]:=by unfold ofS;rw [if_pos h]
theorem aa:hasS aS [97]=true:=by unfold aS;rw [of_one (by decide +kernel),ones_has];decide +kernel
theorem ab_:hasS aS [98]=false:=by unfold aS;rw [of_one (by decide +kernel),ones_has];decide +kernel
theorem ba_:hasS bS [97]=false:=by unfold bS;rw [of_one (by decide +kernel),ones_has];decide +kernel
theorem bb:hasS bS [98]=true:=by unfold bS;rw [of_one (by decide +kernel),ones_has];decide +kernel
theorem aS_id:normS aS=aS:=normS_id (ofS_nm _)
theorem bS_id:normS bS=bS:=normS_id (ofS_nm _)
noncomputable def p1:List Ins:=[iSp 1 3,iS aS,iJ 0,iS bS,iO 6]
noncomputable def p2:List Ins:=[iSp 1 3,iS aS,iJ 5,iS aS,iS bS,iO 6]
noncomputable def p3:List Ins:=[iSp 1 4,iS aS,iS bS,iJ 0,iO 6]
noncomputable def p4:List Ins:=[iS aS,iO 6]
noncomputable def n1:List Nd:=[ndS aS,ndR 0 (-1),ndS bS,nd 5]
noncomputable def n2:List Nd:=[ndS aS,ndS aS,ndS bS,nd 5,nd 6]
noncomputable def n3:List Nd:=[ndS aS,ndS bS,nd 5,ndR 0 (-1)]
noncomputable def n4:List Nd:=[ndS aS]
theorem comp_of {l:List Nd} {q:List Ins} (hm:mayF l=true) (hc:codeF l []=some [q]):compileF l=.ok (q++[iO 6]):=by unfold compileF;rw [if_pos hm,hc]
theorem c1:compileF n1=.ok p1:=comp_of (q:=[iSp 1 3,iS aS,iJ 0,iS bS]) (by simp [mayF,mayL,mayStep,n1,ndS,ndR,nd,aS_id,bS_id,none_]) (by kernel_rfl)
theorem c2:compileF n2=.ok p2:=comp_of (q:=[iSp 1 3,iS aS,iJ 5,iS aS,iS bS]) (by simp [mayF,mayL,mayStep,n2,ndS,ndR,nd,aS_id,bS_id,none_]) (by kernel_rfl)
theorem c3:compileF n3=.ok p3:=comp_of (q:=[iSp 1 4,iS aS,iS bS,iJ 0]) (by simp [mayF,mayL,mayStep,n3,ndS,ndR,nd,aS_id,bS_id,none_]) (by kernel_rfl)
theorem c4:compileF n4=.ok p4:=comp_of (q:=[iS aS]) (by simp [mayF,mayL,mayStep,n4,ndS,ndR,nd,aS_id,bS_id,none_]) (by kernel_rfl)
theorem m1:mayP p1=true:=by simp [mayP,okP,p1,iS,iSp,iJ,iO,aS_id,bS_id,none_]
theorem m2:mayP p2=true:=by simp [mayP,okP,p2,iS,iSp,iJ,iO,aS_id,bS_id,none_]
theorem m3:mayP p3=true:=by simp [mayP,okP,p3,iS,iSp,iJ,iO,aS_id,bS_id,none_]
theorem m4:mayP p4=true:=by simp [mayP,okP,p4,iS,iSp,iJ,iO,aS_id,bS_id,none_]
def t1:List Tx:=[[97],[42],[98]]
def t2:List Tx:=[[97],[124],[97],[98]]
def t3:List Tx:=[[40],[97],[98],[41],[42]]
def t4:List Tx:=[[97]]
theorem pat1:Pat [97,42,98] t1 n1:=⟨by decide +kernel,by decide +kernel,few_of _ (by decide),by decide,⟨20,by kernel_rfl⟩,by decide +kernel⟩
theorem pat2:Pat [97,124,97,98] t2 n2:=⟨by decide +kernel,by decide +kernel,few_of _ (by decide),by decide,⟨20,by kernel_rfl⟩,by decide +kernel⟩
theorem pat3:Pat [40,97,98,41,42] t3 n3:=⟨by decide +kernel,by decide +kernel,few_of _ (by decide),by decide,⟨20,by kernel_rfl⟩,by decide +kernel⟩
theorem pat4:Pat [97] t4 n4:=⟨by decide +kernel,by decide +kernel,few_of _ (by decide),by decide,⟨20,by kernel_rfl⟩,by decide +kernel⟩
def w1:List Tx:=[[97],[97],[98],[97]]
def w2:List Tx:=[[97],[98],[97]]
def w3:List Tx:=[[97],[98],[97],[98]]
def w4:List Tx:=[[98]]
section
variable {b f:Bool}
theorem r10 (k:Nat):k∈[0,1,3]↔R p1 w1 true false 0 0 k:=R_list0 (by kernel_rfl) k
theorem r11 (k:Nat):k∈[2,0,1,3]↔R p1 w1 true false 0 1 k:=R_list (x:=[97]) (O:=[2]) r10 (Nat.zero_le _) rfl (by simp [ovB,p1,iS,iSp,iJ,iO,aa,ba_]) (by kernel_rfl) k
theorem r12 (k:Nat):k∈[2,0,1,3]↔R p1 w1 true false 0 2 k:=R_list (x:=[97]) (O:=[2]) r11 (Nat.zero_le _) rfl (by simp [ovB,p1,iS,iSp,iJ,iO,aa,ba_]) (by kernel_rfl) k
theorem r13 (k:Nat):k∈[4]↔R p1 w1 true false 0 3 k:=R_list (x:=[98]) (O:=[4]) r12 (Nat.zero_le _) rfl (by simp [ovB,p1,iS,iSp,iJ,iO,ab_,bb]) (by kernel_rfl) k
theorem r14 (k:Nat):k∈[]↔R p1 w1 true false 0 4 k:=R_list (x:=[97]) (O:=[]) r13 (Nat.zero_le _) rfl (by simp [ovB,p1,iS,iSp,iJ,iO]) (by kernel_rfl) k
theorem r33 (k:Nat):k∈[0,1,3]↔R p1 w1 true false 3 3 k:=R_list0 (by kernel_rfl) k
theorem r34 (k:Nat):k∈[2,0,1,3]↔R p1 w1 true false 3 4 k:=R_list (x:=[97]) (O:=[2]) r33 (Nat.le_refl _) rfl (by simp [ovB,p1,iS,iSp,iJ,iO,aa,ba_]) (by kernel_rfl) k
theorem long1:longF p1 w1 true false 0=(3,true,false,0):=by
 unfold longF
 rw [if_pos ⟨m1,by decide,by decide⟩]
 have h:lastM p1 w1 true false 0 5=some 3:=by
  rw [lone_last r14,if_neg (by decide),lone_last r13,if_pos (by kernel_rfl)]
 have ho:openF p1 w1 true false 0=false:=by rw [lone_open r14 rfl];rfl
 show ((((lastM p1 w1 true false 0 5).getD 0:Nat):Int),(lastM p1 w1 true false 0 5).isSome,openF p1 w1 true false 0,(0:Int))=_
 rw [h,ho];rfl
theorem long2:longF p1 w1 true false 3=(0,false,true,0):=by
 unfold longF
 rw [if_pos ⟨m1,by decide,by decide⟩]
 have h:lastM p1 w1 true false 3 5=none:=by
  rw [lone_last r34,if_neg (by rw [show firstOf p1 [6] [2,0,1,3]=none by kernel_rfl];simp),lone_last r33,if_neg (by rw [show firstOf p1 [6] [0,1,3]=none by kernel_rfl];simp),lastM_early (Nat.le_refl _)]
 have ho:openF p1 w1 true false 3=true:=by rw [lone_open r34 rfl];kernel_rfl
 show ((((lastM p1 w1 true false 3 5).getD 0:Nat):Int),(lastM p1 w1 true false 3 5).isSome,openF p1 w1 true false 3,(0:Int))=_
 rw [h,ho];rfl
end
theorem s00 (k:Nat):k∈[0,1,3]↔R p2 w2 true true 0 0 k:=R_list0 (by kernel_rfl) k
theorem s01 (k:Nat):k∈[2,5,4]↔R p2 w2 true true 0 1 k:=R_list (x:=[97]) (O:=[2,4]) s00 (Nat.zero_le _) rfl (by simp [ovB,p2,iS,iSp,iJ,iO,aa]) (by kernel_rfl) k
theorem s02 (k:Nat):k∈[5]↔R p2 w2 true true 0 2 k:=R_list (x:=[98]) (O:=[5]) s01 (Nat.zero_le _) rfl (by simp [ovB,p2,iS,iSp,iJ,iO,bb]) (by kernel_rfl) k
theorem s03 (k:Nat):k∈[]↔R p2 w2 true true 0 3 k:=R_list (x:=[97]) (O:=[]) s02 (Nat.zero_le _) rfl (by simp [ovB,p2,iS,iSp,iJ,iO]) (by kernel_rfl) k
theorem s22 (k:Nat):k∈[0,1,3]↔R p2 w2 true true 2 2 k:=R_list0 (by kernel_rfl) k
theorem s23 (k:Nat):k∈[2,5,4]↔R p2 w2 true true 2 3 k:=R_list (x:=[97]) (O:=[2,4]) s22 (Nat.le_refl _) rfl (by simp [ovB,p2,iS,iSp,iJ,iO,aa]) (by kernel_rfl) k
theorem s33 (k:Nat):k∈[0,1,3]↔R p2 w2 true true 3 3 k:=R_list0 (by kernel_rfl) k
theorem all1:allF p2 w2 0=[(0,2),(2,3)]:=by
 have h0:lastM p2 w2 true true 0 4=some 2:=by
  rw [lone_last s03,if_neg (by decide),lone_last s02,if_pos (by kernel_rfl)]
 have h2:lastM p2 w2 true true 2 4=some 3:=by
  rw [lone_last s23,if_pos (by kernel_rfl)]
 have h3:lastM p2 w2 true true 3 4=none:=by
  rw [lone_last s33,if_neg (by rw [show firstOf p2 [6] [0,1,3]=none by kernel_rfl];simp),lastM_early (Nat.le_refl _)]
 rw [allF_some (by decide) h0]
 show (0,2) :: allF p2 w2 2=_
 rw [allF_some (by decide) h2]
 show (0,2) :: (2,3) :: allF p2 w2 3=_
 rw [allF_none (by decide) h3,allF_end (by decide)]
theorem u00 (k:Nat):k∈[0,1,4]↔R p3 w3 true true 0 0 k:=R_list0 (by kernel_rfl) k
theorem u01 (k:Nat):k∈[2]↔R p3 w3 true true 0 1 k:=R_list (x:=[97]) (O:=[2]) u00 (Nat.zero_le _) rfl (by simp [ovB,p3,iS,iSp,iJ,iO,aa]) (by kernel_rfl) k
theorem u02 (k:Nat):k∈[3,0,1,4]↔R p3 w3 true true 0 2 k:=R_list (x:=[98]) (O:=[3]) u01 (Nat.zero_le _) rfl (by simp [ovB,p3,iS,iSp,iJ,iO,bb]) (by kernel_rfl) k
theorem u03 (k:Nat):k∈[2]↔R p3 w3 true true 0 3 k:=R_list (x:=[97]) (O:=[2]) u02 (Nat.zero_le _) rfl (by simp [ovB,p3,iS,iSp,iJ,iO,aa]) (by kernel_rfl) k
theorem u04 (k:Nat):k∈[3,0,1,4]↔R p3 w3 true true 0 4 k:=R_list (x:=[98]) (O:=[3]) u03 (Nat.zero_le _) rfl (by simp [ovB,p3,iS,iSp,iJ,iO,bb]) (by kernel_rfl) k
theorem whole1:wholeF p3 w3=(true,0):=by
 have h:lastM p3 w3 true true 0 5=some 4:=by rw [lone_last u04,if_pos (by kernel_rfl)]
 have hl:longF p3 w3 true true 0=(4,true,openF p3 w3 true true 0,0):=by
  unfold longF
  rw [if_pos ⟨m3,by decide,by decide⟩]
  show ((((lastM p3 w3 true true 0 5).getD 0:Nat):Int),(lastM p3 w3 true true 0 5).isSome,openF p3 w3 true true 0,(0:Int))=_
  rw [h];rfl
 unfold wholeF
 rw [hl];rfl
theorem v00 (k:Nat):k∈[0]↔R p4 w4 true true 0 0 k:=R_list0 (by kernel_rfl) k
theorem v01 (k:Nat):k∈[]↔R p4 w4 true true 0 1 k:=R_list (x:=[98]) (O:=[]) v00 (Nat.zero_le _) rfl (by simp [ovB,p4,iS,iSp,iJ,iO,ab_]) (by kernel_rfl) k
theorem steps1:stepsV p4 w4 true true 0=1:=by
 unfold stepsV
 rw [if_pos ⟨m4,by decide,by decide⟩]
 show stepsF p4 w4 true true 0 2=1
 rw [stepsF_add v01 (by decide) m4,stepsF_add v00 (by decide) m4];rfl
theorem none1 (W:List Tx) (b f:Bool) (i:Int):longF [] W b f i=(0,false,false,1):=by
 unfold longF
 rw [if_neg]
 rintro ⟨h,_⟩
 simp [mayP] at h
end Go.Proofs.YtegdbmbenjnacaaGreat.Pike
namespace Go.Proofs.YtegdbmbenjnacaaGreat.Pike
open Go.RowKit Mem
open Sset (St Tx NmS ofS none_ txs ArgT conv_str mk_toList)
open Prg (Ins PR)
open Syn (Nd NV ArgN)
set_option maxRecDepth 100000
def Oft (w:World) (p:List Ins) (e:Ending) (w':World):Prop:=∃v V,e=.returned v∧PR w.heap.size w' v V p∧Below w.heap.size w w'
set_option maxHeartbeats 4000000 in
theorem of_few {l:List UInt8} {T:List Tx} {N:List Nd} {p:List Ins} (hP:Pat l T N) (hC:Prg.compileF N=.ok p) (hl:l.length≤1000) (w:World) :
  Calls Tryz.prog 21 #[.string ⟨l.toArray⟩] w (Oft w p):=by
 obtain ⟨n,hn⟩:∃n,l.length=n:=⟨_,rfl⟩
 obtain ⟨g,C,W1,hcv,hr1,hb1,_,_⟩:=conv_str w ⟨l.toArray⟩ l (mk_toList l) n hn (by omega)
 have HPT:=Lib.hid (rpattern_few (c:=C) hP hC hr1 hn (by omega))
 have HB1:=Lib.hid hb1
 clear hP hC hr1 hb1 hl hn
 go_enter Tryz.func21,Tryz.ntmps21
 go_wp2_with fail
 refine HPT.out.mono ?_
 rintro e w2 ⟨v2,V2,rfl,hp,hb⟩
 have HP2:=Lib.hid (show PR w.heap.size w2 v2 V2 p from ⟨own_mono hp.own HB1.out.size,hp.ms⟩)
 have HB2:=Lib.hid (HB1.out.trans (hb.mono HB1.out.size))
 clear hp hb HPT hcv
 go_wp2_with fail
 go_ret
 exact ⟨_,_,rfl,HP2.out,HB2.out⟩
theorem argT_new (w:World) (W:List Tx) (n:Nat) (hn:W.length=n) (hs:Sset.Short W) (hm:n≤1000):ArgT (w.alloc (.cells (txs W).toArray 9)) (some ⟨w.heap.size,0,none⟩) n W :=
 ⟨(Utf.rd_new w 9 (txs W) w.heap.size rfl).more (by simp),hn,hs,by omega⟩
theorem short1 {W:List Tx} (h:∀t∈W,t.length≤9):Sset.Short W:=fun t ht=>by have:=h t ht;omega
theorem pr_arg {w:World} {B:Nat} {v:Value} {V:List NV} {p:List Ins} (h:PR B w v V p) (n:Nat) (hn:p.length=n) (hs:n≤1000):∃A c,v=.slice A n c∧ArgN w A n V p:=by
 subst hn
 obtain ⟨A,c,h1,_,h2⟩:=h.arg (by omega)
 exact ⟨A,c,h1,h2⟩
theorem all_one {w:World} {v:Value} (h:w.ownsRow 0 52 4 v 2 (sps [(0,2),(2,3)])):∃b o c,v=.slice (some ⟨b,o,none⟩) 2 c∧w.cell? ⟨b,o+1,none⟩=some (.int .i64 2)∧w.cell? ⟨b,o+4,none⟩=some (.int .i64 2):=by
 obtain ⟨A,c,rfl,_,_,hr⟩:=own_form h
 obtain ⟨b,o,rfl,_,hc⟩:=hr (by decide)
 exact ⟨b,o,c,rfl,hc 1 _ rfl,hc 4 _ rfl⟩
theorem argN_nil (w:World):ArgN w none 0 [] []:=⟨fun h=>absurd rfl h,rfl,rfl,fun i h=>absurd h (Nat.not_lt_zero _),by decide⟩
set_option maxHeartbeats 8000000 in
theorem fixed_any (w:World):Calls Tryz.prog 9 #[] w (Ret w (.bool true)):=by
 obtain ⟨u,hu⟩:∃u,u=w.alloc (.cells (txs w1).toArray 9):=⟨_,rfl⟩
 have HW1:=Lib.hid (show ArgT u (some ⟨w.heap.size,0,none⟩) 4 w1 by rw [hu];exact argT_new w w1 4 rfl (short1 (by decide)) (by decide))
 have HBU:=Lib.hid (show Below w.heap.size w u by rw [hu];exact (Below.refl _ _).alloc (Nat.le_refl _) _)
 have HO1:=Lib.hid (of_few pat1 c1 (by decide) u)
 have HU:=Lib.hid hu
 clear hu
 go_enter Tryz.func9,Tryz.ntmps9
 go_wp2_with fail
 refine Calls.mono (show Calls Tryz.prog _ _ _ (Oft u p1) from HU.out ▸ HO1.out) ?_
 rintro e u1 ⟨v1,V1,rfl,hp,hb⟩
 obtain ⟨A1,c1,rfl,ha⟩:=pr_arg hp 5 rfl (by decide)
 have HB1:=Lib.hid (HBU.out.trans (hb.mono HBU.out.size))
 have HW1b:=Lib.hid (HW1.out.next hb)
 have HL1:=Lib.hid (longest_any A1 (some ⟨w.heap.size,0,none⟩) 5 c1 4 4 true false 0 u1 ha HW1b.out)
 rw [long1] at HL1
 have HO2:=Lib.hid (fun x=>of_few pat1 Pike.c1 (by decide) x)
 clear hp hb ha HO1 HW1 HBU HU
 go_wp2_with fail
 refine HL1.out.mono ?_
 rintro e u2 ⟨rfl,hb⟩
 have HB2:=Lib.hid (HB1.out.trans (hb.mono HB1.out.size))
 have HW2:=Lib.hid (HW1b.out.next hb)
 clear hb HL1 HB1 HW1b
 simp only [four]
 go_wp2_with fail
 refine (HO2.out u2).mono ?_
 rintro e u3 ⟨v3,V3,rfl,hp,hb⟩
 obtain ⟨A3,c3,rfl,ha⟩:=pr_arg hp 5 rfl (by decide)
 have HB3:=Lib.hid (HB2.out.trans (hb.mono HB2.out.size))
 have HW3:=Lib.hid (HW2.out.next hb)
 have HL3:=Lib.hid (longest_any A3 (some ⟨w.heap.size,0,none⟩) 5 c3 4 4 true false 3 u3 ha HW3.out)
 rw [long2] at HL3
 have HO4:=Lib.hid (fun x=>of_few pat2 Pike.c2 (by decide) x)
 clear hp hb ha HO2 HW2 HB2
 go_wp2_with fail
 refine HL3.out.mono ?_
 rintro e u4 ⟨rfl,hb⟩
 have HB4:=Lib.hid (HB3.out.trans (hb.mono HB3.out.size))
 have HW4:=Lib.hid (HW3.out.next hb)
 clear hb HL3 HB3 HW3
 simp only [four]
 go_wp2_with fail
 refine (HO4.out u4).mono ?_
 rintro e u5 ⟨v5,V5,rfl,hp,hb⟩
 obtain ⟨A5,c5,rfl,ha⟩:=pr_arg hp 6 rfl (by decide)
 have HB5:=Lib.hid (HB4.out.trans (hb.mono HB4.out.size))
 have HW5:=Lib.hid (HW4.out.next hb)
 have hnx:Below u5.heap.size u5 (u5.alloc (.cells (txs w2).toArray 9)):=(Below.refl _ _).alloc (Nat.le_refl _) _
 have HA5:=Lib.hid (all_any A5 (some ⟨u5.heap.size,0,none⟩) 6 c5 3 3 _ (ha.next hnx) (argT_new u5 w2 3 rfl (short1 (by decide)) (by decide)))
 have HN5:=Lib.hid hnx
 clear hp hb ha HO4 HW4 HB4 hnx
 go_wp2_with fail
 refine HA5.out.mono ?_
 intro e u6 h6
 unfold AllT at h6
 rw [if_pos m2,all1] at h6
 obtain ⟨v6,rfl,ho6,hb6⟩:=h6
 obtain ⟨b6,o6,k6,rfl,q1,q2⟩:=all_one (own_mono ho6 (Nat.zero_le _))
 have hb6:=HN5.out.trans (hb6.mono HN5.out.size)
 have HB6:=Lib.hid (HB5.out.trans (hb6.mono HB5.out.size))
 have HW6:=Lib.hid (HW5.out.next hb6)
 have hl6:b6 < u6.heap.size:=(ho6.lt b6 rfl).2
 have HO6:=Lib.hid (fun x=>of_few pat3 Pike.c3 (by decide) x)
 clear ho6 hb6 HA5 HB5 HW5 HN5
 go_wp2_with fail
 refine (HO6.out u6).mono ?_
 rintro e u7 ⟨v7,V7,rfl,hp,hb⟩
 obtain ⟨A7,c7,rfl,ha⟩:=pr_arg hp 5 rfl (by decide)
 have HB7:=Lib.hid (HB6.out.trans (hb.mono HB6.out.size))
 have HW7:=Lib.hid (HW6.out.next hb)
 have hnx:Below u7.heap.size u7 (u7.alloc (.cells (txs w3).toArray 9)):=(Below.refl _ _).alloc (Nat.le_refl _) _
 have HA7:=Lib.hid (whole_any A7 (some ⟨u7.heap.size,0,none⟩) 5 c7 4 4 _ (ha.next hnx) (argT_new u7 w3 4 rfl (short1 (by decide)) (by decide)))
 rw [whole1] at HA7
 have HN7:=Lib.hid hnx
 have HQ7:=Lib.hid hb
 clear hp hb ha HO6 HW6 HB6 hnx
 go_wp2_with fail
 refine HA7.out.mono ?_
 rintro e u8 ⟨rfl,hb⟩
 have hb:=HN7.out.trans (hb.mono HN7.out.size)
 have HB8:=Lib.hid (HB7.out.trans (hb.mono HB7.out.size))
 have HW8:=Lib.hid (HW7.out.next hb)
 have HL8:=Lib.hid (longest_any none (some ⟨w.heap.size,0,none⟩) 0 0 4 4 true true 0 u8 (argN_nil u8) HW8.out)
 rw [none1] at HL8
 have HQ8:=Lib.hid (HQ7.out.trans (hb.mono HQ7.out.size))
 clear hb HA7 HW7 HB7 HN7 HQ7
 go_wp2_with fail
 refine HL8.out.mono ?_
 rintro e u9 ⟨rfl,hb⟩
 have HB9:=Lib.hid (HB8.out.trans (hb.mono HB8.out.size))
 have hq9:=HQ8.out.trans (hb.mono HQ8.out.size)
 have q3:=(hq9.cell (p:=⟨b6,o6+1,none⟩) hl6).trans q1
 have q4:=(hq9.cell (p:=⟨b6,o6+4,none⟩) hl6).trans q2
 have HOA:=Lib.hid (fun x=>of_few pat4 Pike.c4 (by decide) x)
 clear hb HL8 HW8 HB8 HQ8 hq9 q1 q2
 simp only [four]
 go_wp2_with (first
  | (go_at_call 21;refine (HOA.out u9).mono ?_;rintro e ua ⟨va,Va,rfl,hp,hb⟩;obtain ⟨Aa,ca,rfl,ha⟩:=pr_arg hp 2 rfl (by decide);have HBA:=Lib.hid (HB9.out.trans (hb.mono HB9.out.size));have hnx:Below ua.heap.size ua (ua.alloc (.cells (txs w4).toArray 9)):=(Below.refl _ _).alloc (Nat.le_refl _) _;have HAA:=Lib.hid (steps_any Aa (some ⟨ua.heap.size,0,none⟩) 2 ca 1 1 true true 0 _ (ha.next hnx) (argT_new ua w4 1 rfl (short1 (by decide)) (by decide)));rw [steps1] at HAA;have HNA:=Lib.hid hnx;clear hp hb ha hnx)
  | (go_at_call 11;refine HAA.out.mono ?_;rintro e ub ⟨rfl,hb⟩;have hb:=HNA.out.trans (hb.mono HNA.out.size);have HBB:=Lib.hid (HBA.out.trans (hb.mono HBA.out.size));clear hb))
 go_ret
 exact ⟨rfl,HBB.out⟩
end Go.Proofs.YtegdbmbenjnacaaGreat.Pike
