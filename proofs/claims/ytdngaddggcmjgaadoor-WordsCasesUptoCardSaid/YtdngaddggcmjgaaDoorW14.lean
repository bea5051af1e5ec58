/-
  Texts of stage 7, part 14.
-/
import Derived.BigQuiet
import Derived.Deep.QuietTactic
import Derived.Test.YtdngaddggcmjgaaDoorW11
import Derived.Test.YtdngaddggcmjgaaDoorW12
import Derived.Test.YtdngaddggcmjgaaDoorW13
namespace Go.Proofs.YtdngaddggcmjgaaDoor.Ucd
open Go.RowKit Utf
theorem infoI32:(Tryd.prog.info? 21).map (fun i=>(i.zero,i.size,i.bytes))=some (some (.int .i32 0),1,4):=by kernel_rfl
theorem rd_new (u:World) (t:TypeId) (cs:List Value) (g:Nat) (hg:u.heap.size=g):Rd (u.alloc (.cells cs.toArray t)) (g+1) (some ⟨g,0,none⟩) cs:=fun _ =>
 ⟨g,0,rfl,by omega,fun j u' hu=>by subst hg;rw [Nat.zero_add,(Blk.new u t cs).cell j];exact hu⟩
theorem own_below {w w':World} {base:Nat} {e:TypeId} {size:Nat} {v:Value} {n:Nat} {xs:List Value} (h:w.ownsRow base e size v n xs) (hb:Below w.heap.size w w'):w'.ownsRow base e size v n xs :=
 h.kept (row:=none) ⟨hb.os,hb.tape,hb.output,hb.size,fun k hk _=>hb.block k hk⟩ (by cases v.ownBlock <;> simp)
def Mine (base:Nat) (w:World) (xs:List Int) (e:Ending) (w':World):Prop:=∃v,e=.returned v∧w'.ownsRow base 21 1 v xs.length (nums xs)∧Below base w w'
theorem full_len (k:Nat):∀r,(full k r).length≤2 ^ k:=by
 induction k with
 | zero=>intro r;simp [full]
 | succ k ih =>
  intro r
  have h1:=ih (pairF r).1
  have h2:=ih (pairF r).2.1
  have h3:0 < 2 ^ k:=Nat.two_pow_pos k
  simp only [full,Nat.pow_succ]
  split
  ·simp;omega
  ·split
   ·simp only [List.length_append];omega
   ·simp only [List.length_append,List.length_nil];omega
set_option maxHeartbeats 4000000 in
theorem append_leaf (base:Nat) (r:Int) (v:Value) (xs:List Int) (w:World) (hL:Laid w) (hown:w.ownsRow base 21 1 v xs.length (nums xs)) (hb:base≤w.heap.size) (hn:xs.length≤1000) (hq:(pairF r).2.2=0) :
  Calls Tryd.prog 72 #[v,.int .i32 r] w (Mine base w (xs++[r])):=by
 obtain ⟨i0,hi,hz0,hz1,hz2⟩:=info_parts infoI32
 have HP:=Lib.hid (pair_any r w hL)
 generalize pairF r=q at HP hq
 obtain ⟨qa,qb,qn⟩:=q
 obtain rfl:qn=0:=hq
 have HO:=Lib.hid hown
 clear hL hown
 go_enter Tryd.func72,Tryd.ntmps72
 go_wp2_with fail
 refine HP.out.mono ?_
 rintro e w1 ⟨rfl,hb1⟩
 have HO1:=Lib.hid (own_below HO.out hb1)
 have HB1:=Lib.hid hb1
 have hs1:=hb1.size
 clear hb1 HO HP
 dsimp only [trip]
 go_wp2_with (at_builtin;refine wpList_append_rd _ rfl (.tmp 16) (.tmp 18) _ rfl base 21 i0 _ 1 4 Tryd.underlying35 hi hz0 hz1 hz2 rfl (by decide) _ xs.length (nums xs) rfl (HO1.out.alloc _) _ (some ⟨w1.heap.size,0,none⟩) 1 1 [.int .i32 r] rfl rfl (rd_new _ _ [.int .i32 r] _ (by simp)) (nums_one [r]) (by unfold maxLen;omega) (by omega) (by simp;omega) ?_;intro v2 w2 hown2 hgr2 hat2)
 go_ret
 refine ⟨v2,rfl,?_,Below.grown ((HB1.out.mono hb).alloc (by omega) _) hgr2 (by simp;omega) (fun k hk=>(HO1.out.lt k hk).1)⟩
 rw [List.length_append,nums_append]
 exact hown2
set_option maxHeartbeats 4000000 in
theorem append_any (k:Nat):∀(base:Nat) (r:Int) (v:Value) (xs:List Int) (w:World),dep k r=true→Laid w→w.ownsRow base 21 1 v xs.length (nums xs)→base≤w.heap.size→5 < base→xs.length+2 ^ k≤1000 →
  Calls Tryd.prog 72 #[v,.int .i32 r] w (Mine base w (xs++full k r)):=by
 induction k with
 | zero =>
  intro base r v xs w hd hL hown hb _ hn
  exact append_leaf base r v xs w hL hown hb (by omega) (by simpa [dep] using hd)
 | succ k ih =>
  intro base r v xs w hd hL hown hb hg hn
  have hf:full (k+1) r=if (pairF r).2.2=0 then [r] else full k (pairF r).1++(if (pairF r).2.2=2 then full k (pairF r).2.1 else []):=rfl
  by_cases hz:(pairF r).2.2=0
  ·rw [hf,if_pos hz]
   exact append_leaf base r v xs w hL hown hb (by have:=Nat.two_pow_pos (k+1);omega) hz
  ·have HP:=Lib.hid (pair_any r w hL)
   have HL:=Lib.hid hL
   rw [dep] at hd
   rw [hf,if_neg hz]
   generalize pairF r=q at HP hd hz
   obtain ⟨qa,qb,qn⟩:=q
   dsimp only at hd hz ⊢
   have hz':(qn == 0)=false:=by simpa using hz
   rw [hz',Bool.false_or,Bool.and_eq_true] at hd
   obtain ⟨hda,hd2⟩:=hd
   have hl:=full_len k qa
   have h2:=Nat.two_pow_pos k
   rw [Nat.pow_succ] at hn
   have HO:=Lib.hid hown
   have HDA:=Lib.hid hda
   clear hL hown hf hda
   by_cases h1:qn=1
   ·subst h1
    have HL':=Lib.hid hl;have H2:=Lib.hid h2;have HN:=Lib.hid hn
    clear hd2 hz hz' hl h2 hn
    go_enter Tryd.func72,Tryd.ntmps72
    go_wp2_with fail
    refine HP.out.mono ?_
    rintro e w1 ⟨rfl,hb1⟩
    have HB1:=Lib.hid hb1
    clear hb1
    dsimp only [trip]
    go_wp2_with fail
    refine (ih base qa v xs w1 HDA.out (HL.out.next HB1.out) (own_below HO.out HB1.out) (Nat.le_trans hb HB1.out.size) hg (by have:=HN.out;have:=H2.out;omega)).mono ?_
    rintro e w2 ⟨v2,rfl,hown2,hb2⟩
    have HO2:=Lib.hid hown2;have HB2:=Lib.hid hb2
    clear hown2 hb2
    go_wp2_with fail
    go_ret
    exact ⟨v2,rfl,HO2.out,(HB1.out.mono hb).trans HB2.out⟩
   ·have h1':(qn == 1)=false:=by simpa using h1
    rw [h1',Bool.false_or,Bool.and_eq_true] at hd2
    obtain ⟨hq2,hdb⟩:=hd2
    obtain rfl:qn=2:=by simpa using hq2
    have HL':=Lib.hid hl;have H2:=Lib.hid h2;have HN:=Lib.hid hn;have HDB:=Lib.hid hdb
    clear hz hz' hl h2 hn h1 h1' hq2 hdb
    go_enter Tryd.func72,Tryd.ntmps72
    go_wp2_with fail
    refine HP.out.mono ?_
    rintro e w1 ⟨rfl,hb1⟩
    have HB1:=Lib.hid hb1
    clear hb1
    dsimp only [trip]
    go_wp2_with fail
    refine (ih base qa v xs w1 HDA.out (HL.out.next HB1.out) (own_below HO.out HB1.out) (Nat.le_trans hb HB1.out.size) hg (by have:=HN.out;have:=H2.out;omega)).mono ?_
    rintro e w2 ⟨v2,rfl,hown2,hb2⟩
    have HO2:=Lib.hid hown2;have HB2:=Lib.hid hb2
    clear hown2 hb2
    go_wp2_with fail
    refine (ih base qb v2 (xs++full k qa) w2 HDB.out ((HL.out.next HB1.out).below HB2.out hg) HO2.out (Nat.le_trans (Nat.le_trans hb HB1.out.size) HB2.out.size) hg (by have:=HN.out;have:=H2.out;have:=HL'.out;rw [List.length_append];omega)).mono ?_
    rintro e w3 ⟨v3,rfl,hown3,hb3⟩
    have HO3:=Lib.hid hown3;have HB3:=Lib.hid hb3
    clear hown3 hb3
    go_wp2_with fail
    go_ret
    exact ⟨v3,rfl,by rw [←List.append_assoc];exact HO3.out,((HB1.out.mono hb).trans HB2.out).trans HB3.out⟩
theorem decompose_any (r:Int) (w:World) (hL:Laid w):Calls Tryd.prog 54 #[.int .i32 r] w (Mine w.heap.size w (fullF r)):=by
 have HC:=Lib.hid (append_any 3 w.heap.size r (.slice none 0 0) [] w (dep_all r) hL (World.ownsRow_nil _ _ _ _) (Nat.le_refl _) hL.size (by decide))
 clear hL
 go_enter Tryd.func54,Tryd.ntmps54
 go_wp2_with fail
 refine HC.out.mono ?_
 rintro e w1 ⟨v,rfl,hown,hb⟩
 have HO:=Lib.hid hown;have HB:=Lib.hid hb
 clear hown hb
 go_wp2_with fail
 go_ret
 exact ⟨v,rfl,HO.out,HB.out⟩
set_option maxHeartbeats 4000000 in
theorem opens_any (r:Int) (w:World) (hL:Laid w):Calls Tryd.prog 87 #[.int .i32 r] w (Ret w (.bool (opn r))):=by
 have HL:=Lib.hid hL
 have HP:=Lib.hid (pair_any r w hL)
 clear hL
 go_enter Tryd.func87,Tryd.ntmps87
 go_wp2_with fail
 refine HP.out.mono ?_
 rintro e w1 ⟨rfl,hb1⟩
 have HB1:=Lib.hid hb1
 clear hb1
 dsimp only [trip]
 go_wp2_with fail
 go_loopw [0,3,5] (fun x a n wr=>∃y:Int,x=.int .i32 y∧a=.int .i32 (pairF y).1∧n=.int .i64 (pairF y).2.2∧Hid (hd 3 y=fstF r∧Below w.heap.size w wr)) (fun x _ _ _=>hgt 3 (intOf x))
 case atStart=>exact ⟨r,rfl,rfl,rfl,Lib.hid ⟨(fst_hd r).symm,HB1.out⟩⟩
 case round =>
  obtain ⟨y,rfl,rfl,rfl,H⟩:=hrel
  by_cases hz:(pairF y).2.2=0
  ·rw [hz]
   have hy:hd 3 y=y:=by rw [hd,if_pos hz]
   have HY:=Lib.hid (show y=fstF r by rw [←H.out.1,hy])
   have HC:=Lib.hid (class_any y wr (HL.out.next H.out.2))
   clear hy hz
   by_cases hc:cls y=0
   ·rw [hc] at HC
    have HO:=Lib.hid (show opn r=!trl y by unfold opn;rw [←HY.out,hc];rfl)
    clear hc
    go_wp2_with (first | (go_at_call 73;refine HC.out.mono ?_;rintro e w2 ⟨rfl,hb2⟩;have HB2:=Lib.hid hb2;clear hb2) | (go_at_call 96;refine (trailing_any y _).mono ?_;rintro e w3 ⟨rfl,rfl⟩))
    go_ret
    exact ⟨ret_bool HO.out.symm,H.out.2.trans (HB2.out.mono H.out.2.size)⟩
   ·have hc':(cls y == 0)=false:=by simpa using hc
    have HO:=Lib.hid (show opn r=false by unfold opn;rw [←HY.out,hc'];rfl)
    clear hc
    go_wp2_with (first | (go_at_call 73;refine HC.out.mono ?_;rintro e w2 ⟨rfl,hb2⟩;have HB2:=Lib.hid hb2;clear hb2) | (go_at_call 96;refine (trailing_any y _).mono ?_;rintro e w3 ⟨rfl,rfl⟩))
    go_ret
    exact ⟨ret_bool HO.out.symm,H.out.2.trans (HB2.out.mono H.out.2.size)⟩
  ·have hpos:0 < (pairF y).2.2:=by rcases pair_n y with h | h | h <;> omega
   have HS:=Lib.hid (hgt_step hz)
   have HD:=Lib.hid (hd_step hz)
   have HP2:=Lib.hid (pair_any (pairF y).1 wr (HL.out.next H.out.2))
   clear hz
   go_wp2_with (go_at_call 84;refine HP2.out.mono ?_;rintro e w2 ⟨rfl,hb2⟩;have HB2:=Lib.hid hb2;clear hb2;dsimp only [trip])
   go_roundw
   case rel=>exact ⟨(pairF y).1,rfl,rfl,rfl,Lib.hid ⟨by rw [←HD.out];exact H.out.1,H.out.2.trans (HB2.out.mono H.out.2.size)⟩⟩
   case measure=>simp only [intOf];rw [HS.out];omega
end Go.Proofs.YtdngaddggcmjgaaDoor.Ucd
namespace Go.Proofs.YtdngaddggcmjgaaDoor.Ucd
open Go.RowKit Utf
def shf:List (Int × Int × Int × Int)→Int→Int
 | [],r=>r
 | x :: t,r=>if x.1≤r∧r≤x.2.1∧(r - x.1) % x.2.2.1=0 then r+x.2.2.2 else shf t r
def foldA (r:Int):Int:=if r=215 then r else if r=930 then r else if r=181 then 956 else if r=376 then 255 else if r=383 then 115 else if r=837 then 953 else if r=902 then 940 else if r=962 then 963 else if r=8486 then 969 else if r=8490 then 107 else if r=8491 then 229 else shf shRows r
def foldF (r:Int):List Int:=if r=223∨r=7838 then [115,115] else if r=304 then [105,775] else [foldA r]
theorem sh_bd:∀x∈shRows,0≤x.1∧x.2.1≤8000∧1≤x.2.2.1∧x.2.2.1≤2∧0≤x.2.2.2∧x.2.2.2≤80:=by decide +kernel
set_option maxHeartbeats 4000000 in
theorem shifted_any (r:Int) (w:World) (hL:Laid w) (h1:-2147483648≤r) (h2:r≤2147483647):Calls Tryd.prog 51 #[.int .i32 r] w (Ret w (.int .i32 (shf shRows r))):=by
 obtain ⟨ty,fr,hB⟩:=hL.2.2.2.2.2
 have HB:=Lib.hid hB
 clear hL hB
 go_enter Tryd.func51,Tryd.ntmps51
 go_wp2_with (refine wpList_load_row rfl _ _ rfl 0 rfl _ _ _ _ HB.out Tryd.underlying101 rfl (by kernel_rfl) ?_)
 obtain ⟨arr,harr⟩:∃arr,arr=(c4 shRows).toArray:=⟨_,rfl⟩
 rw [←harr]
 have HI:=Lib.hid (show ∀k:Nat,k < 11→∀u:World,(Instr.index 101 (.agg arr) (.int .i64 k)).run Tryd.prog u=.ok (.agg (arr.extract (k*4) (k*4+4))) u from fun k hk u=>run_index_row arr k Tryd.underlying101 Tryd.isAgg100 Tryd.sizeOf100 hk u)
 have HA:=Lib.hid harr
 clear harr
 go_loopw [6] (fun i wr=>∃k:Nat,k≤11∧i=.int .i64 k∧Hid (shf (shRows.drop k) r=shf shRows r∧Below w.heap.size w wr)) (fun i _=>11 - (intOf i).toNat)
 case atStart=>exact ⟨0,Nat.zero_le _,rfl,Lib.hid ⟨rfl,Below.refl _ _⟩⟩
 case round =>
  obtain ⟨k,hk,rfl,H⟩:=hrel
  by_cases hlt:k < 11
  ·have hx:∀u:World,(Instr.index 101 (.agg arr) (.int .i64 k)).run Tryd.prog u=.ok (.agg #[.int .i32 (shRows[k]'hlt).1,.int .i32 (shRows[k]'hlt).2.1,.int .i32 (shRows[k]'hlt).2.2.1,.int .i32 (shRows[k]'hlt).2.2.2]) u:=fun u=>by
    rw [HI.out k hlt u,HA.out,c4_row shRows k hlt]
   have hd:shf (shRows.drop k) r=if (shRows[k]'hlt).1≤r∧r≤(shRows[k]'hlt).2.1∧(r - (shRows[k]'hlt).1) % (shRows[k]'hlt).2.2.1=0 then r+(shRows[k]'hlt).2.2.2 else shf (shRows.drop (k+1)) r:=by
    rw [List.drop_eq_getElem_cons hlt];rfl
   have hbd:=sh_bd _ (List.getElem_mem (l:=shRows) hlt)
   generalize shRows[k]'hlt=row at hx hd hbd
   obtain ⟨lo,hi,st,mo⟩:=row
   dsimp only at hx hd hbd
   obtain ⟨b1,b2,b3,b4,b5,b6⟩:=hbd
   have HD:=Lib.hid hd
   have HW:=Lib.hid (H.out.2.alloc H.out.2.size (.cells #[.int .i32 lo,.int .i32 hi,.int .i32 st,.int .i32 mo] 100))
   clear hd
   by_cases c1:lo≤r
   ·by_cases c2:r≤hi
    ·have c1':decide (lo≤r)=true:=decide_eq_true c1
     have c2':decide (r≤hi)=true:=decide_eq_true c2
     have c0:(0:Int)≤r - lo:=by omega
     have hst:(st == 0)=false:=by simp;omega
     by_cases c3:(r - lo) % st=0
     ·have c3':((r - lo) % st == 0)=true:=by simp [c3]
      have C3:=Lib.hid c3
      clear c3
      go_wp2
      go_ret
      exact ⟨ret_int (by rw [←H.out.1,HD.out,if_pos ⟨c1,c2,C3.out⟩]),HW.out⟩
     ·have c3':((r - lo) % st == 0)=false:=by simp [c3]
      have C3:=Lib.hid c3
      clear c3
      go_wp2
      go_roundw
      case rel=>exact ⟨k+1,by omega,by go_num,Lib.hid ⟨by rw [←H.out.1,HD.out,if_neg (fun h=>C3.out h.2.2)],HW.out⟩⟩
      case measure=>simp [intOf];omega
    ·have c1':decide (lo≤r)=true:=decide_eq_true c1
     have c2':decide (r≤hi)=false:=decide_eq_false c2
     go_wp2
     go_roundw
     case rel=>exact ⟨k+1,by omega,by go_num,Lib.hid ⟨by rw [←H.out.1,HD.out,if_neg (fun h=>c2 h.2.1)],HW.out⟩⟩
     case measure=>simp [intOf];omega
   ·have c1':decide (lo≤r)=false:=decide_eq_false c1
    go_wp2
    go_roundw
    case rel=>exact ⟨k+1,by omega,by go_num,Lib.hid ⟨by rw [←H.out.1,HD.out,if_neg (fun h=>c1 h.1)],HW.out⟩⟩
    case measure=>simp [intOf];omega
  ·go_wp2
   go_ret
   exact ⟨ret_int (by rw [←H.out.1,List.drop_of_length_le (by show 11≤k;omega)];rfl),H.out.2⟩
set_option maxHeartbeats 4000000 in
theorem foldAlone_any (r:Int) (w:World) (hL:Laid w) (h1:-2147483648≤r) (h2:r≤2147483647):Calls Tryd.prog 35 #[.int .i32 r] w (Ret w (.int .i32 (foldA r))):=by
 have HS:=Lib.hid (shifted_any r w hL h1 h2)
 clear hL
 by_cases k0:r=215
 ·subst k0
  clear HS
  go_enter Tryd.func35,Tryd.ntmps35
  go_wp2
  go_ret
  exact ⟨rfl,Below.refl _ _⟩
 by_cases k1:r=930
 ·subst k1
  clear HS
  go_enter Tryd.func35,Tryd.ntmps35
  go_wp2
  go_ret
  exact ⟨rfl,Below.refl _ _⟩
 by_cases k2:r=181
 ·subst k2
  clear HS
  go_enter Tryd.func35,Tryd.ntmps35
  go_wp2
  go_ret
  exact ⟨rfl,Below.refl _ _⟩
 by_cases k3:r=376
 ·subst k3
  clear HS
  go_enter Tryd.func35,Tryd.ntmps35
  go_wp2
  go_ret
  exact ⟨rfl,Below.refl _ _⟩
 by_cases k4:r=383
 ·subst k4
  clear HS
  go_enter Tryd.func35,Tryd.ntmps35
  go_wp2
  go_ret
  exact ⟨rfl,Below.refl _ _⟩
 by_cases k5:r=837
 ·subst k5
  clear HS
  go_enter Tryd.func35,Tryd.ntmps35
  go_wp2
  go_ret
  exact ⟨rfl,Below.refl _ _⟩
 by_cases k6:r=902
 ·subst k6
  clear HS
  go_enter Tryd.func35,Tryd.ntmps35
  go_wp2
  go_ret
  exact ⟨rfl,Below.refl _ _⟩
 by_cases k7:r=962
 ·subst k7
  clear HS
  go_enter Tryd.func35,Tryd.ntmps35
  go_wp2
  go_ret
  exact ⟨rfl,Below.refl _ _⟩
 by_cases k8:r=8486
 ·subst k8
  clear HS
  go_enter Tryd.func35,Tryd.ntmps35
  go_wp2
  go_ret
  exact ⟨rfl,Below.refl _ _⟩
 by_cases k9:r=8490
 ·subst k9
  clear HS
  go_enter Tryd.func35,Tryd.ntmps35
  go_wp2
  go_ret
  exact ⟨rfl,Below.refl _ _⟩
 by_cases k10:r=8491
 ·subst k10
  clear HS
  go_enter Tryd.func35,Tryd.ntmps35
  go_wp2
  go_ret
  exact ⟨rfl,Below.refl _ _⟩
 have HF:=Lib.hid (show foldA r=shf shRows r by unfold foldA;simp only [if_neg k0,if_neg k1,if_neg k2,if_neg k3,if_neg k4,if_neg k5,if_neg k6,if_neg k7,if_neg k8,if_neg k9,if_neg k10])
 have q0:(r == 215)=false:=by simpa using k0
 have q1:(r == 930)=false:=by simpa using k1
 have q2:(r == 181)=false:=by simpa using k2
 have q3:(r == 376)=false:=by simpa using k3
 have q4:(r == 383)=false:=by simpa using k4
 have q5:(r == 837)=false:=by simpa using k5
 have q6:(r == 902)=false:=by simpa using k6
 have q7:(r == 962)=false:=by simpa using k7
 have q8:(r == 8486)=false:=by simpa using k8
 have q9:(r == 8490)=false:=by simpa using k9
 have q10:(r == 8491)=false:=by simpa using k10
 clear k0 k1 k2 k3 k4 k5 k6 k7 k8 k9 k10
 rw [HF.out]
 go_enter Tryd.func35,Tryd.ntmps35
 go_wp2_with (go_at_call 51;refine HS.out.mono ?_;rintro e w1 ⟨rfl,hb1⟩;have HB1:=Lib.hid hb1;clear hb1)
 go_ret
 exact ⟨rfl,HB1.out⟩
def New (w:World) (xs:List Int) (e:Ending) (w':World):Prop:=∃A c,e=.returned (.slice A xs.length c)∧xs.length≤c∧c≤9223372036854775807∧Rd w' w'.heap.size A (nums xs)∧Below w.heap.size w w'
theorem own_form {w:World} {base:Nat} {e:TypeId} {size n:Nat} {v:Value} {xs:List Value} (h:w.ownsRow base e size v n xs):∃A c,v=.slice A n c∧n≤c∧c≤9223372036854775807∧Rd w w.heap.size A xs:=by
 have h2:=h.2
 rcases h2 with ⟨rfl,rfl⟩ | ⟨g,cap,cur,rfl,_,_,h1,h2,_⟩
 ·exact ⟨none,0,rfl,Nat.le_refl _,by omega,Rd.of_own h⟩
 ·exact ⟨_,cap,rfl,h1,h2,Rd.of_own h⟩
theorem new_made (w u:World) (hb:Below w.heap.size w u) (xs:List Int) (n:Nat) (hn:xs.length=n) (h:n≤100):New w xs (.returned (.slice (some ⟨u.heap.size,0,none⟩) n n)) (u.alloc (.cells (nums xs).toArray 21)):=by
 subst hn
 exact ⟨_,_,rfl,Nat.le_refl _,by omega,(rd_new u _ (nums xs) _ rfl).more (by simp),hb.alloc hb.size _⟩
set_option maxHeartbeats 4000000 in
theorem fold_any (r:Int) (w:World) (hL:Laid w) (h1:-2147483648≤r) (h2:r≤2147483647):Calls Tryd.prog 20 #[.int .i32 r] w (New w (foldF r)):=by
 by_cases k0:r=223
 ·subst k0
  go_enter Tryd.func20,Tryd.ntmps20
  go_wp2
  go_ret
  exact new_made w w (Below.refl _ _) [115,115] 2 rfl (by omega)
 by_cases k1:r=7838
 ·subst k1
  go_enter Tryd.func20,Tryd.ntmps20
  go_wp2
  go_ret
  exact new_made w w (Below.refl _ _) [115,115] 2 rfl (by omega)
 by_cases k2:r=304
 ·subst k2
  go_enter Tryd.func20,Tryd.ntmps20
  go_wp2
  go_ret
  exact new_made w w (Below.refl _ _) [105,775] 2 rfl (by omega)
 have HF:=Lib.hid (show foldF r=[foldA r] by unfold foldF;rw [if_neg (by omega),if_neg k2])
 have HS:=Lib.hid (foldAlone_any r w hL h1 h2)
 have q0:(r == 223)=false:=by simpa using k0
 have q1:(r == 7838)=false:=by simpa using k1
 have q2:(r == 304)=false:=by simpa using k2
 clear k0 k1 k2 hL
 rw [HF.out]
 go_enter Tryd.func20,Tryd.ntmps20
 go_wp2_with (go_at_call 35;refine HS.out.mono ?_;rintro e w1 ⟨rfl,hb1⟩;have HB1:=Lib.hid hb1;clear hb1)
 go_ret
 exact new_made w _ HB1.out [foldA r] 1 rfl (by omega)
end Go.Proofs.YtdngaddggcmjgaaDoor.Ucd
namespace Go.Proofs.YtdngaddggcmjgaaDoor.Ucd
open Go.RowKit Utf
def same (a b:List Int):Bool:=decide (a=b)
end Go.Proofs.YtdngaddggcmjgaaDoor.Ucd
