/-
  Texts of stage 7, part 38.
-/
import Derived.Shelf.Strings.BuilderK
import Derived.Test.YtkgeiokckfpjlaaGreatDoorM18
import Derived.Test.YtkgeiokckfpjlaaGreatDoorM30
import Derived.Test.YtkgeiokckfpjlaaGreatDoorM32
import Derived.Test.YtkgeiokckfpjlaaGreatDoorM34
import Derived.Test.YtkgeiokckfpjlaaGreatDoorM36
namespace Go.Proofs.YtkgeiokckfpjlaaGreatDoor.Syn
open Go.RowKit
open Utf (Rd Blk bys Pt enc encN fix dec)
open Norm (normal)
open Seg (texts_any TextsAns strs texts strs_get)
open Rset (Ret own_form)
open Sset (Tx)
open Ucd (Laid)
set_option maxRecDepth 100000
theorem quoted_append (a b:List Tx):quoted (a++b)=quoted a++quoted b:=List.flatMap_append
theorem quoteB_append (a b:List Tx):quoteB (a++b)=quoteB a++quoteB b:=by unfold quoteB;rw [quoted_append,List.flatten_append]
theorem quoteB_one (t:Tx):quoteB [t]=(if sgn t then [92] else [])++t:=by
 unfold quoteB quoted
 cases h:sgn t <;> simp [h]
theorem quoteB_take {L:List Tx} {k:Nat} (h:k < L.length):quoteB (L.take (k+1))=quoteB (L.take k)++((if sgn L[k] then [92] else [])++L[k]):=by
 rw [List.take_succ_eq_append_getElem h,quoteB_append,quoteB_one]
theorem quoteB_len (L:List Tx) (k:Nat):(quoteB (L.take k)).length≤(quoteB L).length:=by
 have:quoteB L=quoteB (L.take k)++quoteB (L.drop k):=by rw [←quoteB_append,List.take_append_drop]
 rw [this,List.length_append];omega
theorem quoteB_le:∀L:List Tx,(quoteB L).length≤L.flatten.length+L.length
 | []=>Nat.le_refl _
 | t :: L=>by
  have h:quoteB (t :: L)=quoteB [t]++quoteB L:=quoteB_append [t] L
  have ih:=quoteB_le L
  rw [h,quoteB_one,List.length_append,List.length_append,List.flatten_cons,List.length_append,List.length_cons]
  split
  ·rw [List.length_singleton];omega
  ·rw [List.length_nil];omega
theorem tx_flat_le (l:List UInt8):(tx l).flatten.length≤12*l.length:=by
 have h:∀G:List (List Int),(G.map enc).flatten.length≤4*G.flatten.length:=by
  intro G
  induction G with
  | nil=>exact Nat.le_refl _
  | cons g G ih =>
   rw [List.map_cons,List.flatten_cons,List.flatten_cons,List.length_append,List.length_append]
   have:=Utf.enc_le g
   omega
 have h1:=h (Seg.cuts Ucd.opn (normal (Norm.runesF l)))
 rw [←tx_normal,Seg.cuts_flat] at h1
 have h2:=Seg.normal_len (Norm.runesF l)
 have h3:=Norm.fulls_len (Norm.runesF l)
 have h4:(Norm.runesF l).length≤l.length:=by rw [Norm.runesF,List.length_map];exact Utf.dec_len_le false l 0
 omega
theorem quote_len (l:List UInt8):(quoteB (tx l)).length≤13*l.length:=by
 have h1:=quoteB_le (tx l);have h2:=tx_flat_le l;have h3:=tx_len l
 omega
def Row (w:World) (A:Option Addr) (S:List ByteArray):Prop:=S≠[]→∃g cur,A=some ⟨g,0,none⟩∧w.heap[g]? = some (.cells cur 9 (0,0))∧cur.toList.take S.length=strs S
theorem Row.of {w:World} {B n:Nat} {v:Value} {S:List ByteArray} (h:w.ownsRow B 9 1 v n (strs S)) (hn:S.length=n):∃A c,v=.slice A n c∧Row w A S:=by
 rcases h.2 with ⟨rfl,rfl⟩ | ⟨g,cap,cur,rfl,_,h3,_,_,_,h7⟩
 ·exact ⟨none,0,rfl,fun hS=>absurd (List.eq_nil_of_length_eq_zero hn) hS⟩
 ·exact ⟨_,_,rfl,fun _=>⟨g,cur,rfl,h3,by rw [hn,←Nat.mul_one n];exact h7⟩⟩
theorem Row.kept {w w':World} {A:Option Addr} {S:List ByteArray} {b:Nat} (h:Row w A S) (hk:Lib.OthersKept 5 (some b) w w') (hb:∃c fz,w.heap[b]? = some (.cells c 80 fz)):Row w' A S:=by
 intro hS
 obtain ⟨g,cur,e,h1,h2⟩:=h hS
 obtain ⟨c,fz,hb⟩:=hb
 refine ⟨g,cur,e,hk g _ h1 (fun e=>?_) (fun c2 fz2 e=>?_),h2⟩
 ·injection e with e
  rw [←e,h1] at hb
  injection hb with hb;injection hb with _ hb _
  exact absurd hb (by decide)
 ·injection e with _ e _
  exact absurd e (by decide)
theorem Row.cell {w:World} {A:Option Addr} {S:List ByteArray} (h:Row w A S) {k:Nat} (hk:k < S.length):∃g,A=some ⟨g,0,none⟩∧w.cell? ⟨g,k,none⟩=some (.string S[k]):=by
 obtain ⟨g,cur,e,h1,h2⟩:=h (fun e=>by rw [e] at hk;exact Nat.not_lt_zero _ hk)
 refine ⟨g,e,?_⟩
 have h3:(strs S)[k]? = some (.string S[k]):=strs_get hk
 rw [←h2,List.getElem?_take,if_pos hk,Array.getElem?_toList] at h3
 rw [Lib.cell_of_heap h1]
 exact h3
def Bld (w:World) (B b:Nat) (l:List UInt8):Prop:=Lib.IsBuilderF 80 5 B b (Lib.byteCells l) w
theorem Bld.blk {w:World} {B b:Nat} {l:List UInt8} (h:Bld w B b l):∃c fz,w.heap[b]? = some (.cells c 80 fz):=by
 rcases h with ⟨_,v,h,_⟩ | ⟨_,v,h,_⟩ <;> exact ⟨_,_,h⟩
theorem bytes_append (l m:List UInt8):Lib.byteCells (l++m)=Lib.byteCells l++Lib.byteCells m:=List.map_append
theorem put_any {B b:Nat} {l:List UInt8} {x:ByteArray} {t:Tx} {w:World} (h:Bld w B b l) (hx:x.data.toList=t) (hl:l.length+t.length≤140737488355328) (hB:B≤w.heap.size) :
  Calls Tryz.prog 49 #[.pointer (some ⟨b,0,none⟩),.string x] w fun e w'=>(∃v,e=.returned v)∧Bld w' B b (l++t)∧Below B w w'∧Lib.OthersKept 5 (some b) w w':=by
 subst hx
 have hs:x.size=x.data.toList.length:=rfl
 refine (Any.Builder_WriteString_k (ρ:=strLow_ren) { strLow with } strLow_extra B b _ x w h (by rw [Lib.byteCells_length,hs];exact hl) hB).mono ?_
 rintro e w' ⟨rfl,h1,h2,h3⟩
 exact ⟨⟨_,rfl⟩,.inr (by rw [bytes_append];exact h1),h2,h3⟩
theorem str_any {B b:Nat} {l:List UInt8} {w:World} (h:Bld w B b l) (hB:B≤w.heap.size) :
  Calls Tryz.prog 50 #[.pointer (some ⟨b,0,none⟩)] w fun e w'=>e=.returned (.string ⟨l.toArray⟩)∧Below B w w':=by
 refine (Any.Builder_String_any_k (ρ:=strLow_ren) { strLow with } strLow_extra B b l w h hB).mono ?_
 rintro e w' ⟨rfl,_,h2,_⟩
 exact ⟨rfl,h2⟩
set_option maxHeartbeats 8000000 in
theorem quote_any (l:List UInt8) (A:Option Addr) (m c:Nat) (w:World) (hL:Laid w)
  (hr:Rd w w.heap.size A (bys l)) (hm:l.length=m) (hc:m≤c) (hcm:c≤9223372036854775807) (hsm:m≤134217728) :
  Calls Tryz.prog 22 #[.slice A m c] w (Ret w (.string ⟨(quoteB (tx l)).toArray⟩)):=by
 have hq:(quoteB (tx l)).length≤1744830464:=by have:=quote_len l;omega
 have HQ:=Lib.hid hq
 obtain ⟨b,hb⟩:∃b,b=w.heap.size:=⟨_,rfl⟩
 obtain ⟨u,hu⟩:∃u,u=w.alloc (.cells #[.pointer none,.slice none 0 0] 80):=⟨_,rfl⟩
 have hbu:Below w.heap.size w u:=by rw [hu];exact (Below.refl _ _).alloc (Nat.le_refl _) _
 have hk:u.heap[b]? = some (.cells #[.pointer none,.slice none 0 0] 80 (0,0)):=by rw [hu,hb];exact heap_alloc_new w _
 have hlt:b < u.heap.size:=(Array.getElem?_eq_some_iff.1 hk).1
 have HT:=Lib.hid (texts_any l A m c u (hL.next hbu) ((hr.below hbu).more hbu.size) hm hc hcm hsm)
 have HK:=Lib.hid hk;have HB:=Lib.hid hbu;have HU:=Lib.hid hu;have HG:=Lib.hid hb;have HLT:=Lib.hid hlt
 have hbw:=Lib.hid (Nat.le_of_eq hb.symm)
 have hll:l.length≤134217728:=by omega
 clear hb hu hbu hk hlt hq hm hr hL
 obtain ⟨S,hS⟩:∃S,S=texts l:=⟨_,rfl⟩
 have HX:=Lib.hid (show tx l=S.map (fun t=>t.data.toList) by rw [hS];rfl)
 rw [←hS] at HT
 clear hS
 go_enter Tryz.func22,Tryz.ntmps22
 go_wp2_with fail
 rw [←HU.out,←HG.out]
 go_wp2_with fail
 refine HT.out.mono ?_
 rintro e w1 ⟨v,rfl,ho,hb1⟩
 obtain ⟨B,c1,rfl,hrow⟩:=Row.of ho rfl
 have HR:=Lib.hid hrow
 have HBL:=Lib.hid (show Bld w1 w.heap.size b [] from .inl ⟨hbw.out,.slice none 0 0,by rw [hb1.block b HLT.out];exact HK.out,World.ownsRowF_of (World.ownsRow_nil _ _ _ _),by simp [Value.ownBlock]⟩)
 have HB1:=Lib.hid (show Below w.heap.size w w1 from HB.out.trans (hb1.mono HB.out.size))
 clear ho hrow hb1 HT HU HG HK HB HLT hbw
 obtain ⟨n,hn⟩:∃n,S.length=n:=⟨_,rfl⟩
 rw [hn]
 have HN:=Lib.hid hn
 have HTX:=Lib.hid (show ∀k (h:k < S.length),quoteB ((tx l).take (k+1))=quoteB ((tx l).take k)++((if sgn (S[k].data.toList) then [92] else [])++S[k].data.toList) from fun k h=>by
  have h2:k < (tx l).length:=by rw [HX.out,List.length_map];exact h
  have:=quoteB_take h2
  rw [this]
  have h3:(tx l)[k]=S[k].data.toList:=by simp only [HX.out,List.getElem_map]
  rw [h3])
 have HTL:=Lib.hid (show ∀k,(quoteB ((tx l).take k)).length≤1744830464 from fun k=>Nat.le_trans (quoteB_len (tx l) k) HQ.out)
 have HTE:=Lib.hid (show quoteB ((tx l).take n)=quoteB (tx l) from by rw [List.take_of_length_le (by rw [HX.out,List.length_map,HN.out];exact Nat.le_refl _)])
 have hnl:=Lib.hid (show n≤134217728 from by
  have h1:=tx_len l
  rw [HX.out,List.length_map,HN.out] at h1
  exact Nat.le_trans h1 (by omega))
 have hl0:n≤134217728:=hnl.out
 clear hn hnl hll
 go_wp2_with fail
 go_loopw [9] (fun i wr=>∃k:Nat,k≤n∧i=.int .i64 k∧Hid (Row wr B S)∧Hid (Bld wr w.heap.size b (quoteB ((tx l).take k)))∧Hid (Below w.heap.size w wr)) (fun i _=>n - (intOf i).toNat)
 case atStart=>exact ⟨0,Nat.zero_le _,rfl,HR,HBL,HB1⟩
 case round =>
  obtain ⟨k,hk,rfl,HR,HBL,HB⟩:=hrel
  by_cases hlt:k < n
  ·have hks:k < S.length:=by rw [HN.out];exact hlt
   have HT1:=Lib.hid (HTX.out k hks)
   have HL1:=Lib.hid (HTL.out (k+1));have HL0:=Lib.hid (HTL.out k)
   obtain ⟨g,e,hcell⟩:=HR.out.cell hks
   subst e
   generalize S[k]=x at HT1 hcell
   obtain ⟨t,ht⟩:∃t,x.data.toList=t:=⟨_,rfl⟩
   have hx:x=⟨t.toArray⟩:=by cases x;subst ht;rfl
   subst hx
   clear ht hks
   rw [show (⟨t.toArray⟩:ByteArray).data.toList=t from rfl] at HT1
   go_wp2_with fail
   refine (sign_any t _).mono ?_
   rintro e w2 ⟨rfl,rfl⟩
   clear hcell
   generalize hsg:sgn t=z at HT1
   cases z with
   | true =>
    have HP:=Lib.hid (put_any (x:=⟨#[92]⟩) (t:=[92]) HBL.out rfl (by have:=HL0.out;simp;omega) HB.out.size)
    go_wp2_with fail
    refine HP.out.mono ?_
    rintro e w3 ⟨⟨v,rfl⟩,hb1,hb2,hk1⟩
    have HR1:=Lib.hid (HR.out.kept hk1 HBL.out.blk)
    have HB3:=Lib.hid (HB.out.trans hb2)
    have HP2:=Lib.hid (put_any (x:=⟨t.toArray⟩) (t:=t) hb1 rfl (by have h1:=HL1.out;rw [HT1.out] at h1;simp only [List.length_append,if_true,List.length_singleton] at h1 ⊢;omega) HB3.out.size)
    have HB1':=Lib.hid hb1
    clear hb1 hb2 hk1 HP HB HR HBL
    go_wp2_with fail
    refine HP2.out.mono ?_
    rintro e w4 ⟨⟨v,rfl⟩,hb1,hb2,hk1⟩
    have HR2:=Lib.hid (HR1.out.kept hk1 HB1'.out.blk)
    have HB4:=Lib.hid (HB3.out.trans hb2)
    have HBL2:=Lib.hid (show Bld w4 w.heap.size b (quoteB ((tx l).take (k+1))) from by rw [HT1.out];simpa [List.append_assoc] using hb1)
    clear hb1 hb2 hk1 HP2
    go_wp2_with fail
    go_roundw
    case rel=>exact ⟨k+1,by omega,by go_num,HR2,HBL2,HB4⟩
    case measure=>simp [intOf];omega
   | false =>
    have HP2:=Lib.hid (put_any (x:=⟨t.toArray⟩) (t:=t) HBL.out rfl (by have h1:=HL1.out;rw [HT1.out] at h1;simp at h1;omega) HB.out.size)
    go_wp2_with fail
    refine HP2.out.mono ?_
    rintro e w4 ⟨⟨v,rfl⟩,hb1,hb2,hk1⟩
    have HR2:=Lib.hid (HR.out.kept hk1 HBL.out.blk)
    have HB4:=Lib.hid (HB.out.trans hb2)
    have HBL2:=Lib.hid (show Bld w4 w.heap.size b (quoteB ((tx l).take (k+1))) from by rw [HT1.out,if_neg (by decide),List.nil_append];exact hb1)
    clear hb1 hb2 hk1 HP2
    go_wp2_with fail
    go_roundw
    case rel=>exact ⟨k+1,by omega,by go_num,HR2,HBL2,HB4⟩
    case measure=>simp [intOf];omega
  ·obtain rfl:k=n:=by omega
   rw [HTE.out] at HBL
   have HF:=Lib.hid (str_any HBL.out HB.out.size)
   go_wp2_with fail
   refine HF.out.mono ?_
   rintro e w2 ⟨rfl,hb2⟩
   have HB2:=Lib.hid (HB.out.trans hb2)
   clear hb2
   go_wp2_with fail
   go_ret
   exact ⟨rfl,HB2.out⟩
end Go.Proofs.YtkgeiokckfpjlaaGreatDoor.Syn
