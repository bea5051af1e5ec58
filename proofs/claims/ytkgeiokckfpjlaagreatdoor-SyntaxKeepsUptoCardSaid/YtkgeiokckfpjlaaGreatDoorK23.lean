/-
  Texts of stage 7, part 23.
-/
import Derived.BigQuiet
import Derived.Deep.QuietTactic
import Derived.Test.YtkgeiokckfpjlaaGreatDoorK8
import Derived.Test.YtkgeiokckfpjlaaGreatDoorK21
import Derived.Test.YtkgeiokckfpjlaaGreatDoorK22
namespace Go.Proofs.YtkgeiokckfpjlaaGreatDoor.Ucd
open Go.RowKit Utf
theorem infoI32:(Tryz.prog.info? 21).map (fun i=>(i.zero,i.size,i.bytes))=some (some (.int .i32 0),1,4):=by kernel_rfl
theorem rd_new (u:World) (t:TypeId) (cs:List Value) (g:Nat) (hg:u.heap.size=g):Rd (u.alloc (.cells cs.toArray t)) (g+1) (some ⟨g,0,none⟩) cs:=fun _ =>
 ⟨g,0,rfl,by omega,fun j u' hu=>by subst hg;rw [Nat.zero_add,(Blk.new u t cs).cell j];exact hu⟩
theorem own_below {w w':World} {base:Nat} {e:TypeId} {size:Nat} {v:Value} {n:Nat} {xs:List Value} (h:w.ownsRow base e size v n xs) (hb:Below w.heap.size w w'):w'.ownsRow base e size v n xs :=
 h.kept (row:=none) ⟨hb.os,hb.tape,hb.output,hb.size,fun k hk _=>hb.block k hk⟩ (by cases v.ownBlock <;> simp)
def Mine (base:Nat) (w:World) (xs:List Int) (e:Ending) (w':World):Prop:=∃v,e=.returned v∧w'.ownsRow base 21 1 v xs.length (nums xs)∧Below base w w'
theorem full_len (k:Nat):∀r,(full k r).length≤2 ^ k:=by
 induction k with
 | zero=>intro r;simp [full]
 | succ k ih =>
  intro r
  have h1:=ih (pairF r).1
  have h2:=ih (pairF r).2.1
  have h3:0 < 2 ^ k:=Nat.two_pow_pos k
  simp only [full,Nat.pow_succ]
  split
  ·simp;omega
  ·split
   ·simp only [List.length_append];omega
   ·simp only [List.length_append,List.length_nil];omega
set_option maxHeartbeats 4000000 in
theorem append_leaf (base:Nat) (r:Int) (v:Value) (xs:List Int) (w:World) (hL:Laid w) (hown:w.ownsRow base 21 1 v xs.length (nums xs)) (hb:base≤w.heap.size) (hn:xs.length≤1000) (hq:(pairF r).2.2=0) :
  Calls Tryz.prog 202 #[v,.int .i32 r] w (Mine base w (xs++[r])):=by
 obtain ⟨i0,hi,hz0,hz1,hz2⟩:=info_parts infoI32
 have HP:=Lib.hid (pair_any r w hL)
 generalize pairF r=q at HP hq
 obtain ⟨qa,qb,qn⟩:=q
 obtain rfl:qn=0:=hq
 have HO:=Lib.hid hown
 clear hL hown
 go_enter Tryz.func202,Tryz.ntmps202
 go_wp2_with fail
 refine HP.out.mono ?_
 rintro e w1 ⟨rfl,hb1⟩
 have HO1:=Lib.hid (own_below HO.out hb1)
 have HB1:=Lib.hid hb1
 have hs1:=hb1.size
 clear hb1 HO HP
 dsimp only [trip]
 go_wp2_with (at_builtin;refine wpList_append_rd _ rfl (.tmp 16) (.tmp 18) _ rfl base 21 i0 _ 1 4 Tryz.underlying73 hi hz0 hz1 hz2 rfl (by decide) _ xs.length (nums xs) rfl (HO1.out.alloc _) _ (some ⟨w1.heap.size,0,none⟩) 1 1 [.int .i32 r] rfl rfl (rd_new _ _ [.int .i32 r] _ (by simp)) (nums_one [r]) (by unfold maxLen;omega) (by omega) (by simp;omega) ?_;intro v2 w2 hown2 hgr2 hat2)
 go_ret
 refine ⟨v2,rfl,?_,Below.grown ((HB1.out.mono hb).alloc (by omega) _) hgr2 (by simp;omega) (fun k hk=>(HO1.out.lt k hk).1)⟩
 rw [List.length_append,nums_append]
 exact hown2
set_option maxHeartbeats 4000000 in
theorem append_any (k:Nat):∀(base:Nat) (r:Int) (v:Value) (xs:List Int) (w:World),dep k r=true→Laid w→w.ownsRow base 21 1 v xs.length (nums xs)→base≤w.heap.size→8 < base→xs.length+2 ^ k≤1000 →
  Calls Tryz.prog 202 #[v,.int .i32 r] w (Mine base w (xs++full k r)):=by
 induction k with
 | zero =>
  intro base r v xs w hd hL hown hb _ hn
  exact append_leaf base r v xs w hL hown hb (by omega) (by simpa [dep] using hd)
 | succ k ih =>
  intro base r v xs w hd hL hown hb hg hn
  have hf:full (k+1) r=if (pairF r).2.2=0 then [r] else full k (pairF r).1++(if (pairF r).2.2=2 then full k (pairF r).2.1 else []):=rfl
  by_cases hz:(pairF r).2.2=0
  ·rw [hf,if_pos hz]
   exact append_leaf base r v xs w hL hown hb (by have:=Nat.two_pow_pos (k+1);omega) hz
  ·have HP:=Lib.hid (pair_any r w hL)
   have HL:=Lib.hid hL
   rw [dep] at hd
   rw [hf,if_neg hz]
   generalize pairF r=q at HP hd hz
   obtain ⟨qa,qb,qn⟩:=q
   dsimp only at hd hz ⊢
   have hz':(qn == 0)=false:=by simpa using hz
   rw [hz',Bool.false_or,Bool.and_eq_true] at hd
   obtain ⟨hda,hd2⟩:=hd
   have hl:=full_len k qa
   have h2:=Nat.two_pow_pos k
   rw [Nat.pow_succ] at hn
   have HO:=Lib.hid hown
   have HDA:=Lib.hid hda
   clear hL hown hf hda
   by_cases h1:qn=1
   ·subst h1
    have HL':=Lib.hid hl;have H2:=Lib.hid h2;have HN:=Lib.hid hn
    clear hd2 hz hz' hl h2 hn
    go_enter Tryz.func202,Tryz.ntmps202
    go_wp2_with fail
    refine HP.out.mono ?_
    rintro e w1 ⟨rfl,hb1⟩
    have HB1:=Lib.hid hb1
    clear hb1
    dsimp only [trip]
    go_wp2_with fail
    refine (ih base qa v xs w1 HDA.out (HL.out.next HB1.out) (own_below HO.out HB1.out) (Nat.le_trans hb HB1.out.size) hg (by have:=HN.out;have:=H2.out;omega)).mono ?_
    rintro e w2 ⟨v2,rfl,hown2,hb2⟩
    have HO2:=Lib.hid hown2;have HB2:=Lib.hid hb2
    clear hown2 hb2
    go_wp2_with fail
    go_ret
    exact ⟨v2,rfl,HO2.out,(HB1.out.mono hb).trans HB2.out⟩
   ·have h1':(qn == 1)=false:=by simpa using h1
    rw [h1',Bool.false_or,Bool.and_eq_true] at hd2
    obtain ⟨hq2,hdb⟩:=hd2
    obtain rfl:qn=2:=by simpa using hq2
    have HL':=Lib.hid hl;have H2:=Lib.hid h2;have HN:=Lib.hid hn;have HDB:=Lib.hid hdb
    clear hz hz' hl h2 hn h1 h1' hq2 hdb
    go_enter Tryz.func202,Tryz.ntmps202
    go_wp2_with fail
    refine HP.out.mono ?_
    rintro e w1 ⟨rfl,hb1⟩
    have HB1:=Lib.hid hb1
    clear hb1
    dsimp only [trip]
    go_wp2_with fail
    refine (ih base qa v xs w1 HDA.out (HL.out.next HB1.out) (own_below HO.out HB1.out) (Nat.le_trans hb HB1.out.size) hg (by have:=HN.out;have:=H2.out;omega)).mono ?_
    rintro e w2 ⟨v2,rfl,hown2,hb2⟩
    have HO2:=Lib.hid hown2;have HB2:=Lib.hid hb2
    clear hown2 hb2
    go_wp2_with fail
    refine (ih base qb v2 (xs++full k qa) w2 HDB.out ((HL.out.next HB1.out).below HB2.out hg) HO2.out (Nat.le_trans (Nat.le_trans hb HB1.out.size) HB2.out.size) hg (by have:=HN.out;have:=H2.out;have:=HL'.out;rw [List.length_append];omega)).mono ?_
    rintro e w3 ⟨v3,rfl,hown3,hb3⟩
    have HO3:=Lib.hid hown3;have HB3:=Lib.hid hb3
    clear hown3 hb3
    go_wp2_with fail
    go_ret
    exact ⟨v3,rfl,by rw [←List.append_assoc];exact HO3.out,((HB1.out.mono hb).trans HB2.out).trans HB3.out⟩
theorem decompose_any (r:Int) (w:World) (hL:Laid w):Calls Tryz.prog 179 #[.int .i32 r] w (Mine w.heap.size w (fullF r)):=by
 have HC:=Lib.hid (append_any 3 w.heap.size r (.slice none 0 0) [] w (dep_all r) hL (World.ownsRow_nil _ _ _ _) (Nat.le_refl _) hL.size (by decide))
 clear hL
 go_enter Tryz.func179,Tryz.ntmps179
 go_wp2_with fail
 refine HC.out.mono ?_
 rintro e w1 ⟨v,rfl,hown,hb⟩
 have HO:=Lib.hid hown;have HB:=Lib.hid hb
 clear hown hb
 go_wp2_with fail
 go_ret
 exact ⟨v,rfl,HO.out,HB.out⟩
set_option maxHeartbeats 4000000 in
theorem opens_any (r:Int) (w:World) (hL:Laid w):Calls Tryz.prog 178 #[.int .i32 r] w (Ret w (.bool (opn r))):=by
 have HL:=Lib.hid hL
 have HP:=Lib.hid (pair_any r w hL)
 clear hL
 go_enter Tryz.func178,Tryz.ntmps178
 go_wp2_with fail
 refine HP.out.mono ?_
 rintro e w1 ⟨rfl,hb1⟩
 have HB1:=Lib.hid hb1
 clear hb1
 dsimp only [trip]
 go_wp2_with fail
 go_loopw [0,3,5] (fun x a n wr=>∃y:Int,x=.int .i32 y∧a=.int .i32 (pairF y).1∧n=.int .i64 (pairF y).2.2∧Hid (hd 3 y=fstF r∧Below w.heap.size w wr)) (fun x _ _ _=>hgt 3 (intOf x))
 case atStart=>exact ⟨r,rfl,rfl,rfl,Lib.hid ⟨(fst_hd r).symm,HB1.out⟩⟩
 case round =>
  obtain ⟨y,rfl,rfl,rfl,H⟩:=hrel
  by_cases hz:(pairF y).2.2=0
  ·rw [hz]
   have hy:hd 3 y=y:=by rw [hd,if_pos hz]
   have HY:=Lib.hid (show y=fstF r by rw [←H.out.1,hy])
   have HC:=Lib.hid (class_any y wr (HL.out.next H.out.2))
   clear hy hz
   by_cases hc:cls y=0
   ·rw [hc] at HC
    have HO:=Lib.hid (show opn r=!trl y by unfold opn;rw [←HY.out,hc];rfl)
    clear hc
    go_wp2_with (first | (go_at_call 200;refine HC.out.mono ?_;rintro e w2 ⟨rfl,hb2⟩;have HB2:=Lib.hid hb2;clear hb2) | (go_at_call 201;refine (trailing_any y _).mono ?_;rintro e w3 ⟨rfl,rfl⟩))
    go_ret
    exact ⟨ret_bool HO.out.symm,H.out.2.trans (HB2.out.mono H.out.2.size)⟩
   ·have hc':(cls y == 0)=false:=by simpa using hc
    have HO:=Lib.hid (show opn r=false by unfold opn;rw [←HY.out,hc'];rfl)
    clear hc
    go_wp2_with (first | (go_at_call 200;refine HC.out.mono ?_;rintro e w2 ⟨rfl,hb2⟩;have HB2:=Lib.hid hb2;clear hb2) | (go_at_call 201;refine (trailing_any y _).mono ?_;rintro e w3 ⟨rfl,rfl⟩))
    go_ret
    exact ⟨ret_bool HO.out.symm,H.out.2.trans (HB2.out.mono H.out.2.size)⟩
  ·have hpos:0 < (pairF y).2.2:=by rcases pair_n y with h | h | h <;> omega
   have HS:=Lib.hid (hgt_step hz)
   have HD:=Lib.hid (hd_step hz)
   have HP2:=Lib.hid (pair_any (pairF y).1 wr (HL.out.next H.out.2))
   clear hz
   go_wp2_with (go_at_call 199;refine HP2.out.mono ?_;rintro e w2 ⟨rfl,hb2⟩;have HB2:=Lib.hid hb2;clear hb2;dsimp only [trip])
   go_roundw
   case rel=>exact ⟨(pairF y).1,rfl,rfl,rfl,Lib.hid ⟨by rw [←HD.out];exact H.out.1,H.out.2.trans (HB2.out.mono H.out.2.size)⟩⟩
   case measure=>simp only [intOf];rw [HS.out];omega
end Go.Proofs.YtkgeiokckfpjlaaGreatDoor.Ucd
namespace Go.Proofs.YtkgeiokckfpjlaaGreatDoor.Ucd
open Go.RowKit Utf
theorem own_form {w:World} {base:Nat} {e:TypeId} {size n:Nat} {v:Value} {xs:List Value} (h:w.ownsRow base e size v n xs):∃A c,v=.slice A n c∧n≤c∧c≤9223372036854775807∧Rd w w.heap.size A xs:=by
 have h2:=h.2
 rcases h2 with ⟨rfl,rfl⟩ | ⟨g,cap,cur,rfl,_,_,h1,h2,_⟩
 ·exact ⟨none,0,rfl,Nat.le_refl _,by omega,Rd.of_own h⟩
 ·exact ⟨_,cap,rfl,h1,h2,Rd.of_own h⟩
end Go.Proofs.YtkgeiokckfpjlaaGreatDoor.Ucd
namespace Go.Proofs.YtkgeiokckfpjlaaGreatDoor.Ucd
open Go.RowKit Utf
def nmGo:List UInt8→Int→List UInt8→Int × Bool
 | [],_,_=>(0,false)
 | c :: t,i,l=>if (l == [c])=true then (i+1,true) else nmGo t (i+1) l
def nmF (l:List UInt8):Int × Bool:=nmGo [76,77,78,80,83,90,67] 0 l
set_option maxHeartbeats 4000000 in
theorem named_any (s:ByteArray) (w:World):Calls Tryz.prog 254 #[.string s] w fun e w'=>e=.returned (.tuple #[.int .i64 (nmF s.toList).1,.bool (nmF s.toList).2])∧w=w':=by
 go_enter Tryz.func254,Tryz.ntmps254
 go_wp2
 all_goals go_ret2
 all_goals exact ⟨by simp [nmF,nmGo, *],rfl⟩
def same (a b:List Int):Bool:=decide (a=b)
end Go.Proofs.YtkgeiokckfpjlaaGreatDoor.Ucd
