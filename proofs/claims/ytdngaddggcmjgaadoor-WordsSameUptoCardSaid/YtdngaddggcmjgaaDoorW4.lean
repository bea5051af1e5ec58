/-
  Texts of stage 7, part 4.
-/
import Derived.Lib.AppendZeros
import Derived.RegionTactic
import Derived.ChangeAlike
import Derived.Test.YtdngaddggcmjgaaDoorW3
namespace Go.Proofs.YtdngaddggcmjgaaDoor.Utf
open Go.RowKit
set_option maxRecDepth 100000
def Room (w:World) (e:Ending) (w':World):Prop:=∃v,e=.returned v∧w'.ownsRow w.heap.size 5 1 v 0 []∧Below w.heap.size w w'
set_option maxHeartbeats 1000000 in
theorem grow_any (n:Nat) (w:World) (h1:1≤n) (h2:n≤2199023255552):Calls Tryd.prog 89 #[.slice none 0 0,.int .i64 n] w (Room w):=by
 obtain ⟨i0,hi,hz0,hz1,hz2⟩:=info_parts infoU8
 have hrun:=fun (u:World) (ty:TypeId)=>Lib.run_append_nil_zeros (P:=Tryd.prog) u 22 3 ty 5 i0 (.int .u8 0) .i64 .i64 Tryd.underlying22 Tryd.underlying3 hi hz0 n h1 (by omega) (by omega) (by rw [hz2];omega)
 have HR:=Lib.hid hrun
 clear hrun
 have hp:(0:Int) < (n:Int):=by omega
 have hge:=grownCap_ge w n 0 5
 have hle:=grownCap_le_maxLen w n 0 5 (by unfold maxLen;omega)
 have hsz:(Builtin.zeroCells (Value.cells (.int .u8 0)) n++Builtin.zeroCells (Value.cells (.int .u8 0)) (grownCap w n 0 5 - n)).size=grownCap w n 0 5*1:=by
  rw [Array.size_append,size_zeroCells,size_zeroCells]
  have:(Value.cells (.int .u8 0)).size=1:=rfl
  rw [this];omega
 obtain ⟨C,hC⟩:∃C,C=grownCap w n 0 5:=⟨_,rfl⟩
 obtain ⟨Z,hZ⟩:∃Z,Z=Builtin.zeroCells (Value.cells (.int .u8 0)) n++Builtin.zeroCells (Value.cells (.int .u8 0)) (grownCap w n 0 5 - n):=⟨_,rfl⟩
 have HR0:Hid (∀ty:TypeId,(Builtin.append_ #[22,3] ty #[.slice none 0 0,.int .i64 n]).run Tryd.prog w=.ok (.slice (some ⟨w.heap.size,0,none⟩) n C) (w.drew.alloc (.cells Z 5))):=fun ty=>by rw [HR.out w ty,hC,hZ]
 rw [←hZ,←hC] at hsz
 rw [←hC] at hge hle
 have HSZ:=Lib.hid hsz
 have hown:(w.drew.alloc (.cells Z 5)).ownsRow w.heap.size 5 1 (.slice (some ⟨w.heap.size,0,none⟩) 0 C) 0 []:=World.ownsRow_made w.drew Z C (Nat.le_refl _) hle hsz
 have HO:=Lib.hid hown
 unfold maxLen at hle
 clear hsz hC hZ HR hown
 go_enter Tryd.func89,Tryd.ntmps89
 go_wp2_with (first
  | (at_builtin;refine Lib.wpList_append_run _ rfl (.tmp 20) (.tmp 21) _ _ rfl _ _ rfl rfl _ _ (HR0.out _) ?_))
 all_goals go_ret
 all_goals exact ⟨_,rfl,HO.out,((Below.refl _ _).drew).alloc (Nat.le_refl _) _⟩
def Joined (w:World) (l:List UInt8) (e:Ending) (w':World):Prop :=
 ∃A c,e=.returned (.slice A l.length c)∧l.length≤c∧c≤maxLen∧Rd w' w'.heap.size A (bys l)∧Below w.heap.size w w'
theorem joined_of {w w':World} {v:Value} {n:Nat} {l:List UInt8} {xs:List Value} (hn:n=l.length) (hx:xs=bys l) (hown:w'.ownsRow w.heap.size 5 1 v n xs) (hp:0 < n) (hb:Below w.heap.size w w'):Joined w l (.returned v) w':=by
 subst hn hx
 obtain ⟨g,cap,rfl,_,_⟩:=hown.form hp
 have hr:=Rd.of_own hown
 rcases hown.2 with ⟨h,_⟩ | ⟨g',cap',cur,h,_,_,h1,h2,_⟩
 ·cases h
 ·simp only [Value.slice.injEq] at h
  obtain ⟨_,_,rfl⟩:=h
  exact ⟨_,_,rfl,h1,h2,hr,hb⟩
set_option maxHeartbeats 2000000 in
theorem concat_any (b o n1 c1 n2 c2:Nat) (A1 A2:Option Addr) (l1 l2:List UInt8) (w:World) (hb:b < w.heap.size) (h1:w.cell? ⟨b,o,none⟩=some (.slice A1 n1 c1)) (h2:w.cell? ⟨b,o+1,none⟩=some (.slice A2 n2 c2))
  (r1:Rd w w.heap.size A1 (bys l1)) (r2:Rd w w.heap.size A2 (bys l2)) (e1:l1.length=n1) (e2:l2.length=n2) (b1:1≤n1) (b2:n1≤1099511627776) (b3:n2≤1099511627776) :
  Calls Tryd.prog 82 #[.slice (some ⟨b,o,none⟩) 2 2] w (Joined w (l1++l2)):=by
 obtain ⟨i0,hi,hz0,hz1,hz2⟩:=info_parts infoU8
 have E1:=Lib.hid e1;have E2:=Lib.hid e2
 clear e1 e2
 have hgr:=grow_any (n1+n2) w (by omega) (by omega)
 rw [Int.natCast_add] at hgr
 have HG:=Lib.hid hgr
 clear hgr
 have n1':(0:Int)≤(n1:Int):=by omega
 go_enter Tryd.func82,Tryd.ntmps82
 go_wp2_with fail
 refine wp_loop_rounds 3 ?_
 rw [rounds_succ]
 go_wp2_with fail
 rw [rounds_succ]
 go_wp2_with fail
 rw [rounds_succ]
 go_wp2_with fail
 refine HG.out.mono ?_
 rintro e w1 ⟨v1,rfl,hown0,hb1⟩
 have g1:w1.cell? ⟨b,o,none⟩=some (.slice A1 n1 c1):=(hb1.cell (p:=⟨b,o,none⟩) hb).trans h1
 have g2:w1.cell? ⟨b,o+1,none⟩=some (.slice A2 n2 c2):=(hb1.cell (p:=⟨b,o+1,none⟩) hb).trans h2
 have q1:=r1.below hb1
 have hs1:=hb1.size
 have m1:((n1:Int)+(n2:Int))≤2199023255552:=by omega
 have k1:(bys l1).length=n1*1:=by rw [bys_len,E1.out,Nat.mul_one]
 have k2:(bys l2).length=n2*1:=by rw [bys_len,E2.out,Nat.mul_one]
 have K1:=Lib.hid k1;have K2:=Lib.hid k2
 clear h1 h2 k1 k2
 go_wp2_with fail
 refine wp_loop_rounds 3 ?_
 rw [rounds_succ]
 go_wp2_with (first
  | (at_builtin;refine wpList_append_rd _ rfl (.tmp 31) (.tmp 32) _ rfl w.heap.size 5 i0 _ 1 1 Tryd.underlying22 hi hz0 hz1 hz2 rfl (by decide) _ 0 [] rfl hown0 w.heap.size A1 n1 c1 (bys l1) rfl K1.out q1 (bys_one _) (by unfold maxLen;omega) (by omega) hs1 ?_;intro v2 w2 hown2 hgr2 hat2;have hb2:=hb1.grown hgr2 hs1 (fun g hg=>(hown0.lt g hg).1);have g3:w2.cell? ⟨b,o+1,none⟩=some (.slice A2 n2 c2):=(hb2.cell (p:=⟨b,o+1,none⟩) hb).trans ((hb1.cell (p:=⟨b,o+1,none⟩) hb).symm.trans g2)))
 have q2:=r2.below hb2
 have hs2:=hb2.size
 rw [rounds_succ]
 go_wp2_with (first
  | (at_builtin;refine wpList_append_rd _ rfl (.tmp 31) (.tmp 32) _ rfl w.heap.size 5 i0 _ 1 1 Tryd.underlying22 hi hz0 hz1 hz2 rfl (by decide) _ (0+n1) ([]++bys l1) rfl hown2 w.heap.size A2 n2 c2 (bys l2) rfl K2.out q2 (bys_one _) (by unfold maxLen;omega) (by omega) hs2 ?_;intro v3 w3 hown3 hgr3 hat3))
 rw [rounds_succ]
 go_wp2
 go_ret
 exact joined_of (n:=0+n1+n2) (by rw [List.length_append,E1.out,E2.out];omega) (by rw [List.nil_append,bys_append]) hown3 (by omega) (hb2.grown hgr3 hs2 (fun g hg=>(hown2.lt g hg).1))
end Go.Proofs.YtdngaddggcmjgaaDoor.Utf
namespace Go.Proofs.YtdngaddggcmjgaaDoor.Utf
open Go.RowKit
set_option maxRecDepth 100000
def dcs (k0 k1 k2:UInt8) (n q:Nat) (b:Bool):List Value:=[.int .u8 k0.toNat,.int .u8 k1.toNat,.int .u8 k2.toNat,.int .i64 n,.int .i64 q,.bool b]
def Dc (w:World) (g:Nat) (k0 k1 k2:UInt8) (n q:Nat) (b:Bool):Prop:=Blk w g 115 (dcs k0 k1 k2 n q b)
section
variable {w w':World} {g n q:Nat} {k0 k1 k2:UInt8} {b:Bool}
theorem Dc.c3 (h:Dc w g k0 k1 k2 n q b):w.cell? ⟨g,3,none⟩=some (.int .i64 n):=Blk.cell h 3
theorem Dc.c4 (h:Dc w g k0 k1 k2 n q b):w.cell? ⟨g,4,none⟩=some (.int .i64 q):=Blk.cell h 4
theorem Dc.c5 (h:Dc w g k0 k1 k2 n q b):w.cell? ⟨g,5,none⟩=some (.bool b):=Blk.cell h 5
theorem Dc.fr (h:Dc w g k0 k1 k2 n q b) (i:Nat):w.frozen? ⟨g,i,none⟩=false:=Blk.frozen h i
end
theorem new_any (w:World):Calls Tryd.prog 69 #[] w fun e w'=>e=.returned (.pointer (some ⟨w.heap.size,0,none⟩))∧w'=w.alloc (.cells (dcs 0 0 0 0 0 false).toArray 115):=by
 go_enter Tryd.func69,Tryd.ntmps69
 go_wp2
 go_ret
 exact ⟨rfl,rfl⟩
theorem grown_set {w u:World} {g:Nat} (h:w.grownBy u (some g)) (i:Nat) (v:Value):w.grownBy (u.setCell ⟨g,i,none⟩ v) (some g) :=
 ⟨h.os,h.tape,h.output,by rw [World.size_setCell];exact h.size,fun k hk hne=>(heap_setCell_other u _ k v (fun e=>hne (by rw [e]))).trans (h.block k hk hne)⟩
theorem grown_alloc {w u:World} {r:Option Nat} (h:w.grownBy u r) (o:Obj):w.grownBy (u.alloc o) r :=
 ⟨h.os,h.tape,h.output,by rw [World.size_alloc];have:=h.size;omega,fun k hk hne=>(Below.heap_alloc u o k (Nat.lt_of_lt_of_le hk h.size)).trans (h.block k hk hne)⟩
theorem grown_drew {w u:World} {r:Option Nat} (h:w.grownBy u r):w.grownBy u.drew r:=⟨h.os,h.tape,h.output,h.size,h.block⟩
theorem grown_below {w u v:World} {r:Option Nat} (h:w.grownBy u r) (hb:Below w.heap.size u v):w.grownBy v r :=
 ⟨hb.os.trans h.os,hb.tape.trans h.tape,hb.output.trans h.output,Nat.le_trans h.size hb.size,fun k hk hne=>(hb.block k hk).trans (h.block k hk hne)⟩
def last (n q:Nat):List Pt:=if n=0 then [] else [⟨65533,q,n⟩]
def Closed (w:World) (g:Nat) (k0 k1 k2:UInt8) (n q:Nat) (e:Ending) (w':World):Prop :=
 ∃A,e=.returned (.slice A (last n q).length (last n q).length)∧Rd w' w'.heap.size A (pts (last n q))∧Dc w' g k0 k1 k2 0 q true∧w.grownBy w' (some g)
set_option maxHeartbeats 1000000 in
theorem close_zero (g q:Nat) (k0 k1 k2:UInt8) (b:Bool) (w:World) (h:Dc w g k0 k1 k2 0 q b):Calls Tryd.prog 71 #[.pointer (some ⟨g,0,none⟩)] w (Closed w g k0 k1 k2 0 q):=by
 have h3:w.cell? ⟨g,3,none⟩=some (.int .i64 0):=h.c3
 have h5:=h.c5
 have f5:=h.fr 5
 have H:=Lib.hid h
 clear h
 go_enter Tryd.func71,Tryd.ntmps71
 go_wp2
 go_ret
 exact ⟨none,rfl,Rd.empty _ _ _,(H.out:Blk _ _ _ _).set_ 5 (.bool true),⟨rfl,rfl,rfl,by simp,fun k _ hk=>heap_setCell_other _ _ _ _ (fun e=>hk (by rw [e]))⟩⟩
set_option maxHeartbeats 1000000 in
theorem close_some (g n q:Nat) (k0 k1 k2:UInt8) (b:Bool) (w:World) (h:Dc w g k0 k1 k2 n q b) (hn:n≠0):Calls Tryd.prog 71 #[.pointer (some ⟨g,0,none⟩)] w (Closed w g k0 k1 k2 n q):=by
 have h3:=h.c3
 have h4:=h.c4
 have h5:=h.c5
 have f3:=h.fr 3
 have f4:=h.fr 4
 have f5:=h.fr 5
 have hne:((n:Int) == 0)=false:=by simp;omega
 have H:=Lib.hid h
 have HN:=Lib.hid hn
 have hlt:g < w.heap.size:=Blk.lt h
 clear h hn
 go_enter Tryd.func71,Tryd.ntmps71
 go_wp2
 go_region
 all_goals go_wp2
 go_ret
 have el:last n q=[⟨65533,q,n⟩]:=by unfold last;rw [if_neg HN.out]
 have hB:Blk ((w.setCell ⟨g,5,none⟩ (.bool true)).setCell ⟨g,3,none⟩ (.int .i64 0)) g 115 (dcs k0 k1 k2 0 q true) :=
  ((H.out:Blk _ _ _ _).set_ 5 (.bool true)).set_ 3 (.int .i64 0)
 have hz:((w.setCell ⟨g,5,none⟩ (.bool true)).setCell ⟨g,3,none⟩ (.int .i64 0)).heap.size=w.heap.size:=by simp
 refine ⟨some ⟨w.heap.size+1,0,none⟩,by rw [el];rfl,?_,(hB.alloc _).alloc _,grown_drew (grown_alloc (grown_alloc (grown_set (grown_set (World.grownBy.refl w _) 5 _) 3 _) _) _)⟩
 rw [el]
 have:=rd_new (((w.setCell ⟨g,5,none⟩ (.bool true)).setCell ⟨g,3,none⟩ (.int .i64 0)).alloc (.cells #[.int .i32 65533,.int .i64 q,.int .i64 n] 51)) 51 (pts [⟨65533,q,n⟩]) (w.heap.size+1) (by simp)
 exact (this.more (by simp)).drew
end Go.Proofs.YtdngaddggcmjgaaDoor.Utf
