/-
  Texts of stage 7, part 12.
-/
import Derived.LoopTactic
import Derived.Laws.RangeString
import Derived.Laws.RangeAny
import Derived.BigQuiet
import Derived.Deep.QuietTactic
import Derived.Deep.RegionHeld3
import Derived.IntWalk
import Derived.Test.YtdngaddggcmjgaaDoorW10
import Derived.Test.YtdngaddggcmjgaaDoorW11
namespace Go.Proofs.YtdngaddggcmjgaaDoor.Ucd
open Go.RowKit Utf
theorem below_iter {B:Nat} {w u:World} (h:Below B w u) (hB:B≤u.heap.size) (s:ByteArray) (k:Nat):Below B w (u.iter s k):=h.alloc hB _
def nameS:ByteArray:=⟨#[103,97,99,116,109,98,112,100,114,113,118,101,111]⟩
theorem name_at:∀i:Fin 13,(nameS[i.1]'i.2).toNat=nameL[i.1]'i.2:=by decide
theorem nameL_lt:∀x∈nameL,x < 128:=by decide
set_option maxHeartbeats 2000000 in
theorem mark_any (c:Int) (w:World) (hL:Laid w):Calls Tryd.prog 100 #[.int .i32 c] w (Ret w (.int .i32 (mk c))):=by
 have HM:=Lib.hid hL.2.2.2.2.1
 have HS:=Lib.hid hL.size
 clear hL
 obtain ⟨S,hS⟩:∃S,S=nameS:=⟨_,rfl⟩
 have hsz:S.size=13:=by rw [hS];rfl
 have HZ:=Lib.hid hsz
 have HN:=Lib.hid hS
 go_enter Tryd.func100,Tryd.ntmps100
 have hSg:(⟨#[103,97,99,116,109,98,112,100,114,113,118,101,111]⟩:ByteArray)=S:=hS.symm
 rw [hSg]
 clear hSg hS hsz
 go_wp2
 go_loopw [] (fun wr=>∃k:Nat,k≤13∧wr=w.iter S k∧Hid (mkGo ((nameL.zip markList).drop k) c=mk c)) (fun wr=>13 - wr.iterPos w.heap.size)
 case atStart=>exact ⟨0,Nat.zero_le _,rfl,Lib.hid rfl⟩
 case round =>
  obtain ⟨k,hk,rfl,H⟩:=hrel
  by_cases hlt:k < 13
  ·have hn:∀ty,(Instr.next (.pointer (some ⟨w.heap.size,0,none⟩)) true ty).run Tryd.prog (w.iter S k)=.ok (.tuple #[.bool true,.int .i64 k,.int .i32 ((nameL[k]'hlt:Nat):Int)]) (w.iter S (k+1)):=fun ty=>by
    have hb:k < S.size:=by rw [HZ.out];exact hlt
    have e:(S[k]'hb).toNat=nameL[k]'hlt:=by
     have h2:∀T (hT:T=S) (hk:k < T.size),(S[k]'hb).toNat=(T[k]'hk).toNat:=fun T hT hk=>by subst hT;rfl
     rw [h2 nameS HN.out.symm hlt]
     exact name_at ⟨k,hlt⟩
    have:=run_next_ascii (P:=Tryd.prog) w S k ty hb (by rw [e];exact nameL_lt _ (List.getElem_mem _))
    rwa [e] at this
   have hmL:k < markList.length:=hlt
   have hd:mkGo ((nameL.zip markList).drop k) c=if ((nameL[k]'hlt:Nat):Int)=c then markList[k]'hmL else mkGo ((nameL.zip markList).drop (k+1)) c:=by
    have hz:k < (nameL.zip markList).length:=hlt
    rw [List.drop_eq_getElem_cons hz]
    simp only [mkGo,List.getElem_zip]
    rfl
   have hcell:(w.iter S (k+1)).cell? ⟨5,k,none⟩=some (.int .i32 (markList[k]'hmL)):=by
    have h:=(HM.out.alloc (.stringIter S (k+1))).cell k
    rw [nums_get hmL] at h
    exact h
   have hb1:=below_iter (Below.refl w.heap.size w) (Nat.le_refl _) S (k+1)
   have HBB:=Lib.hid hb1
   generalize nameL[k]'hlt=nm at hn hd
   generalize markList[k]'hmL=mv at hcell hd
   have HD:=Lib.hid hd
   clear hd hmL hb1
   by_cases hc:(nm:Int)=c
   ·have HC:=Lib.hid hc
    have hc':((nm:Int) == c)=true:=by simp [hc]
    clear hc
    go_wp2
    go_ret
    exact ⟨ret_int (k:=.i32) (a:=mv) (by rw [←H.out,HD.out,if_pos HC.out]),HBB.out⟩
   ·have HC:=Lib.hid hc
    have hc':((nm:Int) == c)=false:=by simp [hc]
    clear hc
    go_wp2
    go_roundw
    case rel=>exact ⟨k+1,by omega,rfl,Lib.hid (by rw [←H.out,HD.out,if_neg HC.out])⟩
    case measure=>simp;omega
  ·obtain rfl:k=13:=by omega
   have hn:∀ty,(Instr.next (.pointer (some ⟨w.heap.size,0,none⟩)) true ty).run Tryd.prog (w.iter S 13)=.ok (.tuple #[.bool false]) (w.iter S 13):=fun ty=>run_next_end w S 13 ty (by rw [HZ.out];omega)
   go_wp2
   go_ret
   exact ⟨ret_int (k:=.i32) (a:=0) (by rw [←H.out];rfl),below_iter (Below.refl w.heap.size w) (Nat.le_refl _) S 13⟩
def basesS:ByteArray:={ data:=(([65,65,65,65,65,65,46,67,69,69,69,69,73,73,73,73,46,78,79,79,79,79,79,46,46,85,85,85,85,89,46,46,97,97,97,97,97,97,46,99,101,101,101,101,105,105,105,105].append [46,110,111,111,111,111,111,46,46,117,117,117,117,121,46,121,65,97,65,97,65,97,67,99,67,99,67,99,67,99,68,100,46,46,69,101,69,101,69,101,69,101,69,101,71,103,71,103]).append ([71,103,71,103,72,104,46,46,73,105,73,105,73,105,73,105,73,46,46,46,74,106,75,107,46,76,108,76,108,76,108,46,46,46,46,78,110,78,110,78,110,46,46,46,79,111,79,111].append [79,111,46,46,82,114,82,114,82,114,83,115,83,115,83,115,83,115,84,116,84,116,46,46,85,117,85,117,85,117,85,117,85,117,85,117,87,119,89,121,89,90,122,90,122,90,122,46])).toArray }
def namesS:ByteArray:={ data:=(([103,97,99,116,100,114,46,101,103,97,99,100,103,97,99,100,46,116,103,97,99,116,100,46,46,103,97,99,100,97,46,46,103,97,99,116,100,114,46,101,103,97,99,100,103,97,99,100].append [46,116,103,97,99,116,100,46,46,103,97,99,100,97,46,100,109,109,98,98,111,111,97,97,99,99,112,112,118,118,118,118,46,46,109,109,98,98,112,112,111,111,118,118,99,99,98,98]).append ([112,112,101,101,99,99,46,46,116,116,109,109,98,98,111,111,112,46,46,46,99,99,101,101,46,97,97,101,101,118,118,46,46,46,46,97,97,101,101,118,118,46,46,46,109,109,98,98].append [113,113,46,46,97,97,101,101,118,118,97,97,99,99,101,101,118,118,101,101,118,118,46,46,116,116,109,109,98,98,114,114,113,113,111,111,99,99,99,99,100,97,97,112,112,118,118,46])).toArray }
theorem bases_at:∀i:Fin 192,(basesS[i.1]'i.2).toNat=basesL[i.1]'i.2:=by decide +kernel
theorem names_at:∀i:Fin 192,(namesS[i.1]'i.2).toNat=namesL[i.1]'i.2:=by decide +kernel
theorem small_at:(∀x∈basesL,x < 128)∧∀x∈namesL,x < 128:=by decide +kernel
theorem index_at {P:Program} {t:TypeId} (ht:P.underlying t=some .string) (s:ByteArray) (k:Nat) (h:k < s.size) (u:World):(Instr.index t (.string s) (.int .i64 k)).run P u=.ok (.int .u8 (s[k]'h).toNat) u:=by
 simp [Instr.index,run_underlying ht,asIntOf,h]
theorem below_of_drew {B:Nat} {u v:World} (h:Below B u.drew v):Below B u v:=⟨h.os,h.tape,h.output,h.size,h.block⟩
set_option maxHeartbeats 2000000 in
theorem latin_any (i:Nat) (hi:i < 192) (w:World) (hL:Laid w):Calls Tryd.prog 92 #[.int .i64 i] w (Ret w (.tuple #[.int .i32 (latT.getD i (0,0,0)).1,.int .i32 (latT.getD i (0,0,0)).2.1,.int .i64 (latT.getD i (0,0,0)).2.2])):=by
 have hx:∀u:World,(Instr.index 9 (.string basesS) (.int .i64 i)).run Tryd.prog u=.ok (.int .u8 (basesL[i]'hi)) u:=fun u=>by
  rw [index_at Tryd.underlying9 basesS i hi u,bases_at ⟨i,hi⟩]
 have hy:∀u:World,(Instr.index 9 (.string namesS) (.int .i64 i)).run Tryd.prog u=.ok (.int .u8 (namesL[i]'hi)) u:=fun u=>by
  rw [index_at Tryd.underlying9 namesS i hi u,names_at ⟨i,hi⟩]
 have hl:=lat_at i hi hi hi
 have hb:basesL[i]'hi < 128:=small_at.1 _ (List.getElem_mem _)
 have hn:namesL[i]'hi < 128:=small_at.2 _ (List.getElem_mem _)
 generalize basesL[i]'hi=b at hx hl hb
 generalize namesL[i]'hi=nm at hy hl hn
 rw [hl]
 clear hl
 obtain ⟨S,hS⟩:∃S,S=basesS:=⟨_,rfl⟩
 obtain ⟨T,hT⟩:∃T,T=namesS:=⟨_,rfl⟩
 rw [←hS] at hx
 rw [←hT] at hy
 have gS:({ data:=(([65,65,65,65,65,65,46,67,69,69,69,69,73,73,73,73,46,78,79,79,79,79,79,46,46,85,85,85,85,89,46,46,97,97,97,97,97,97,46,99,101,101,101,101,105,105,105,105].append [46,110,111,111,111,111,111,46,46,117,117,117,117,121,46,121,65,97,65,97,65,97,67,99,67,99,67,99,67,99,68,100,46,46,69,101,69,101,69,101,69,101,69,101,71,103,71,103]).append ([71,103,71,103,72,104,46,46,73,105,73,105,73,105,73,105,73,46,46,46,74,106,75,107,46,76,108,76,108,76,108,46,46,46,46,78,110,78,110,78,110,46,46,46,79,111,79,111].append [79,111,46,46,82,114,82,114,82,114,83,115,83,115,83,115,83,115,84,116,84,116,46,46,85,117,85,117,85,117,85,117,85,117,85,117,87,119,89,121,89,90,122,90,122,90,122,46])).toArray }:ByteArray)=S:=hS.symm
 have gT:({ data:=(([103,97,99,116,100,114,46,101,103,97,99,100,103,97,99,100,46,116,103,97,99,116,100,46,46,103,97,99,100,97,46,46,103,97,99,116,100,114,46,101,103,97,99,100,103,97,99,100].append [46,116,103,97,99,116,100,46,46,103,97,99,100,97,46,100,109,109,98,98,111,111,97,97,99,99,112,112,118,118,118,118,46,46,109,109,98,98,112,112,111,111,118,118,99,99,98,98]).append ([112,112,101,101,99,99,46,46,116,116,109,109,98,98,111,111,112,46,46,46,99,99,101,101,46,97,97,101,101,118,118,46,46,46,46,97,97,101,101,118,118,46,46,46,109,109,98,98].append [113,113,46,46,97,97,101,101,118,118,97,97,99,99,101,101,118,118,101,101,118,118,46,46,116,116,109,109,98,98,114,114,113,113,111,111,99,99,99,99,100,97,97,112,112,118,118,46])).toArray }:ByteArray)=T:=hT.symm
 have HL:=Lib.hid hL
 clear hL
 by_cases hz:b=46
 ·subst hz
  go_enter Tryd.func92,Tryd.ntmps92
  rw [gS,gT]
  clear gS gT hS hT
  go_wp2
  exact bodyPost_ret (v:=.tuple #[.int .i32 0,.int .i32 0,.int .i64 0]) (by simp [results,Tryd.results92,go_sem]) rfl ⟨rfl,Below.refl _ _⟩
 ·have hz':((b:Int) == 46)=false:=by simp;omega
  have HZ:=Lib.hid hz
  clear hz
  go_enter Tryd.func92,Tryd.ntmps92
  rw [gS,gT]
  clear gS gT hS hT
  go_wp2
  have e1:IntKind.i32.wrap (nm:Int)=nm:=IntWalk.i32_in _ (by omega)
  have e2:IntKind.i32.wrap (b:Int)=b:=IntWalk.i32_in _ (by omega)
  go_region_held3 (fun _=>True) (trivial) (first | (go_at_call 100;refine (mark_any nm _ HL.out.drew).mono ?_;rintro e w1 ⟨rfl,hb1⟩;have HB1:=Lib.hid hb1;clear hb1))
  all_goals go_wp2
  all_goals exact bodyPost_ret (v:=.tuple #[.int .i32 b,.int .i32 (mk nm),.int .i64 2]) (by simp [results,Tryd.results92,go_sem]) rfl ⟨rfl,below_of_drew HB1.out⟩
set_option maxHeartbeats 2000000 in
theorem syllable_any (t:Int) (h0:0≤t) (h1:t≤11171) (w:World):Calls Tryd.prog 93 #[.int .i32 t] w fun e w'=>e=.returned (.tuple #[.int .i32 (sylA t),.int .i32 (sylB t)])∧w=w':=by
 have q1:=Int.emod_nonneg t (b:=28) (by omega)
 have q2:=Int.emod_lt_of_pos t (b:=28) (by omega)
 by_cases hz:t % 28=0
 ·have ha:sylA t=4352+t / 588:=by unfold sylA;rw [if_pos hz]
  have hb:sylB t=4449+t % 588 / 28:=by unfold sylB;rw [if_pos hz]
  rw [ha,hb]
  clear ha hb
  have hz':(t % 28 == 0)=true:=by simp [hz]
  have HZ:=Lib.hid hz
  clear hz
  go_enter Tryd.func93,Tryd.ntmps93
  go_wp2
  go_ret2
  exact ⟨rfl,rfl⟩
 ·have ha:sylA t=44032+t - t % 28:=by unfold sylA;rw [if_neg hz]
  have hb:sylB t=4519+t % 28:=by unfold sylB;rw [if_neg hz]
  rw [ha,hb]
  clear ha hb
  have hz':(t % 28 == 0)=false:=by simp [hz]
  have HZ:=Lib.hid hz
  clear hz
  go_enter Tryd.func93,Tryd.ntmps93
  go_wp2
  go_ret2
  exact ⟨rfl,rfl⟩
end Go.Proofs.YtdngaddggcmjgaaDoor.Ucd
namespace Go.Proofs.YtdngaddggcmjgaaDoor.Ucd
open Go.RowKit Utf
theorem latin_int (x:Int) (h0:0≤x) (h1:x≤191) (w:World) (hL:Laid w):Calls Tryd.prog 92 #[.int .i64 x] w (Ret w (.tuple #[.int .i32 (latT.getD x.toNat (0,0,0)).1,.int .i32 (latT.getD x.toNat (0,0,0)).2.1,.int .i64 (latT.getD x.toNat (0,0,0)).2.2])):=by
 have:=latin_any x.toNat (by omega) w hL
 rwa [show ((x.toNat:Nat):Int)=x from by omega] at this
theorem below_drewN {B:Nat} {u v:World} (h:Below B u v) (k:Nat):Below B u (v.drewN k):=⟨h.os,h.tape,h.output,h.size,h.block⟩
def trip (p:Int × Int × Int):Value:=.tuple #[.int .i32 p.1,.int .i32 p.2.1,.int .i64 p.2.2]
set_option maxHeartbeats 4000000 in
theorem pair_a (r:Int) (w:World) (hL:Laid w) (h1:192≤r) (h2:r≤383):Calls Tryd.prog 84 #[.int .i32 r] w (Ret w (trip (pairF r))):=by
 have e:pairF r=latT.getD (r - 192).toNat (0,0,0):=by unfold pairF;rw [if_pos ⟨h1,h2⟩]
 rw [e]
 clear e
 have HL:=Lib.hid hL
 have HC:=Lib.hid (latin_int (r - 192) (by omega) (by omega) w hL)
 clear hL
 generalize latT.getD (r - 192).toNat (0,0,0)=q at HC
 obtain ⟨qa,qb,qn⟩:=q
 go_enter Tryd.func84,Tryd.ntmps84
 go_wp2_with (go_at_call 92;refine HC.out.mono ?_;rintro e w1 ⟨rfl,hb1⟩;have HB1:=Lib.hid hb1;clear hb1)
 exact bodyPost_ret (v:=.tuple #[.int .i32 qa,.int .i32 qb,.int .i64 qn]) (by simp [results,Tryd.results84,go_sem]) rfl ⟨rfl,HB1.out⟩
set_option maxHeartbeats 4000000 in
theorem pair_b (r:Int) (w:World) (h1:44032≤r) (h2:r≤55203):Calls Tryd.prog 84 #[.int .i32 r] w (Ret w (trip (pairF r))):=by
 have e:pairF r=(sylA (r - 44032),sylB (r - 44032),2):=by unfold pairF;rw [if_neg (by omega),if_pos ⟨h1,h2⟩]
 rw [e]
 clear e
 have HC:=Lib.hid (syllable_any (r - 44032) (by omega) (by omega) w)
 generalize sylA (r - 44032)=qa at HC
 generalize sylB (r - 44032)=qb at HC
 go_enter Tryd.func84,Tryd.ntmps84
 go_wp2_with (go_at_call 93;refine HC.out.mono ?_;rintro e w1 ⟨rfl,rfl⟩)
 exact bodyPost_ret (v:=.tuple #[.int .i32 qa,.int .i32 qb,.int .i64 2]) (by simp [results,Tryd.results84,go_sem]) rfl ⟨rfl,Below.refl _ _⟩
set_option maxHeartbeats 8000000 in
theorem pair_c (r:Int) (w:World) (hL:Laid w) (h:r < 192∨(383 < r∧r < 44032)∨55203 < r):Calls Tryd.prog 84 #[.int .i32 r] w (Ret w (trip (lst listRows r))):=by
 obtain ⟨ty,fr,hB⟩:=hL.2.2.2.1
 have HB:=Lib.hid hB
 clear hL hB
 rcases h with h | ⟨h,h'⟩ | h
 all_goals
  go_enter Tryd.func84,Tryd.ntmps84
  go_wp2_with (refine wpList_load_row rfl _ _ rfl 2 rfl _ _ _ _ HB.out Tryd.underlying134 rfl (by kernel_rfl) ?_)
  obtain ⟨arr,harr⟩:∃arr,arr=(c3 listRows).toArray:=⟨_,rfl⟩
  rw [←harr]
  have HI:=Lib.hid (show ∀k:Nat,k < 31→∀u:World,(Instr.index 134 (.agg arr) (.int .i64 k)).run Tryd.prog u=.ok (.agg (arr.extract (k*3) (k*3+3))) u from fun k hk u=>run_index_row arr k Tryd.underlying134 Tryd.isAgg133 Tryd.sizeOf133 hk u)
  have HA:=Lib.hid harr
  clear harr
  go_loopw [37] (fun i wr=>∃k:Nat,k≤31∧i=.int .i64 k∧Hid (lst (listRows.drop k) r=lst listRows r∧Below w.heap.size w wr)) (fun i _=>31 - (intOf i).toNat)
  case atStart=>exact ⟨0,Nat.zero_le _,rfl,Lib.hid ⟨rfl,Below.refl _ _⟩⟩
  case round =>
   obtain ⟨k,hk,rfl,H⟩:=hrel
   by_cases hlt:k < 31
   ·have hx:∀u:World,(Instr.index 134 (.agg arr) (.int .i64 k)).run Tryd.prog u=.ok (.agg #[.int .i32 (listRows[k]'hlt).1,.int .i32 (listRows[k]'hlt).2.1,.int .i32 (listRows[k]'hlt).2.2]) u:=fun u=>by
     rw [HI.out k hlt u,HA.out,c3_row listRows k hlt]
    have hd:lst (listRows.drop k) r=if r < (listRows[k]'hlt).1 then (0,0,0) else if r=(listRows[k]'hlt).1 then ((listRows[k]'hlt).2.1,(listRows[k]'hlt).2.2,if (listRows[k]'hlt).2.2=0 then 1 else 2) else lst (listRows.drop (k+1)) r:=by
     rw [List.drop_eq_getElem_cons hlt];rfl
    generalize listRows[k]'hlt=row at hx hd
    obtain ⟨x,a,b⟩:=row
    dsimp only at hx hd
    have HD:=Lib.hid hd
    have hw:Below w.heap.size w (wr.alloc (.cells #[.int .i32 x,.int .i32 a,.int .i32 b] 133)):=H.out.2.alloc H.out.2.size _
    have HW:=Lib.hid hw
    clear hd hw
    by_cases c1:r < x
    ·go_wp2
     exact bodyPost_ret (v:=.tuple #[.int .i32 0,.int .i32 0,.int .i64 0]) (by simp [results,Tryd.results84,go_sem]) rfl ⟨by rw [←H.out.1,HD.out,if_pos c1];rfl,HW.out⟩
    by_cases c2:r=x
    ·subst c2
     by_cases c3:b=0
     ·subst c3
      go_wp2
      exact bodyPost_ret (v:=.tuple #[.int .i32 a,.int .i32 0,.int .i64 1]) (by simp [results,Tryd.results84,go_sem]) rfl ⟨by rw [←H.out.1,HD.out];simp [trip],HW.out⟩
     ·have c3':(b == 0)=false:=by simp [c3]
      have C3:=Lib.hid c3
      clear c3
      go_wp2
      go_quiet (fail)
      go_wp2
      exact bodyPost_ret (v:=.tuple #[.int .i32 a,.int .i32 b,.int .i64 2]) (by simp [results,Tryd.results84,go_sem]) rfl ⟨by rw [←H.out.1,HD.out];simp [trip,C3.out],below_drewN HW.out _⟩
    ·have c2':(r == x)=false:=by simp [c2]
     have C2:=Lib.hid c2
     clear c2
     go_wp2
     go_roundw
     case rel=>exact ⟨k+1,by omega,by go_num,Lib.hid ⟨by rw [←H.out.1,HD.out,if_neg c1,if_neg C2.out],HW.out⟩⟩
     case measure=>simp [intOf];omega
   ·go_wp2
    exact bodyPost_ret (v:=.tuple #[.int .i32 0,.int .i32 0,.int .i64 0]) (by simp [results,Tryd.results84,go_sem]) rfl ⟨by rw [←H.out.1,List.drop_of_length_le (by show 31≤k;omega)];rfl,H.out.2⟩
theorem pair_any (r:Int) (w:World) (hL:Laid w):Calls Tryd.prog 84 #[.int .i32 r] w (Ret w (trip (pairF r))):=by
 by_cases ha:192≤r∧r≤383
 ·exact pair_a r w hL ha.1 ha.2
 by_cases hb:44032≤r∧r≤55203
 ·exact pair_b r w hb.1 hb.2
 ·have e:pairF r=lst listRows r:=by unfold pairF;rw [if_neg ha,if_neg hb]
  rw [e]
  exact pair_c r w hL (by omega)
end Go.Proofs.YtdngaddggcmjgaaDoor.Ucd
