/-
  Texts of stage 7, part 23.
-/
import Derived.Test.YtdngaddggcmjgaaDoorW14
import Derived.Test.YtdngaddggcmjgaaDoorW15
import Derived.Test.YtdngaddggcmjgaaDoorW20
import Derived.Test.YtdngaddggcmjgaaDoorW22
namespace Go.Proofs.YtdngaddggcmjgaaDoor.Words
open Utf hiding infoU8
open Norm Seg
open Ucd hiding same grp
def ex1:List UInt8:=[73,116,39,115,32,51,46,53,32,195,137,116,195,169,115,44,32,101,46,103,46,32,95,120,49]
def ex2:List UInt8:=[39,97,39,32,49,46,32,46,53]
def ans1:List Wd:=[⟨[105,116,39,115],0,4,0,4⟩,⟨[51,46,53],5,8,5,8⟩,⟨[101,204,129,116,101,204,129,115],9,13,9,15⟩,⟨[101],15,16,17,18⟩,⟨[103],17,18,19,20⟩,⟨[95,120,49],20,23,22,25⟩]
def ans2:List Wd:=[⟨[97],1,2,1,2⟩,⟨[49],4,5,4,5⟩,⟨[53],8,9,8,9⟩]
theorem words_ex1:wordsF 64 ex1=ans1∧spE 64 ex1=0:=by decide +kernel
theorem words_ex2:wordsF 64 ex2=ans2∧spE 64 ex2=0:=by decide +kernel
theorem words_none:wordsF 0 []=[]∧spE 0 []=1:=by decide +kernel
def big:List UInt8:=[83,84,82,65,83,83,69]
def sharp:List UInt8:=[83,116,114,97,195,159,101]
def small:List UInt8:=[115,116,114,97,115,115,101]
theorem key_big:keyF big=small∧keyF sharp=small:=by decide +kernel
def nrmP (g:List Pt):List Int:=normal (runs g)
theorem flen_nrm (g:List Pt):flen g=(nrmP g).length:=(normal_len (runs g)).symm
theorem grp_nrm (l:List UInt8):(Seg.grp (dec false 0 l)).map nrmP=cuts opn (normal (runesF l)):=by
 rw [cuts_normal,runes_dec,grp_runs,List.map_map];rfl
theorem ok_nrm (lim:Nat) (l:List UInt8):(okS lim l).map nrmP=(cuts opn (normal (runesF l))).takeWhile fun n=>decide (n.length≤lim):=by
 rw [←grp_nrm,okS,okG,List.takeWhile_map]
 congr 2
 funext g
 simp only [Function.comp,flen_nrm]
theorem bad_nrm (lim:Nat) (l:List UInt8):badS lim l=(cuts opn (normal (runesF l))).any fun n=>decide (lim < n.length):=by
 rw [←grp_nrm,badS,badG,List.any_map]
 congr 1
 funext g
 simp only [Function.comp,flen_nrm]
theorem ok_texts (lim:Nat) (l:List UInt8):(okS lim l).map says=((okS lim l).map nrmP).map fun n=>str (enc n):=by rw [List.map_map];rfl
theorem split_same {a b:List UInt8} (h:textF a=textF b) (lim:Int):spE lim a=spE lim b∧(spS lim a).map Sg.t=(spS lim b).map Sg.t:=by
 have hn:=text_eq h
 unfold spE spS
 split
 ·refine ⟨by rw [bad_nrm,bad_nrm,hn],?_⟩
  rw [List.map_map,List.map_map]
  show (okS lim.toNat a).map says=(okS lim.toNat b).map says
  rw [ok_texts,ok_texts,ok_nrm,ok_nrm,hn]
 ·exact ⟨rfl,rfl⟩
def gist (x:Wd):List UInt8 × Nat × Nat:=(x.k,x.f,x.g)
theorem kinds_texts {l m:List Sx} (h:l.map Sx.t=m.map Sx.t):kindsF l=kindsF m:=by
 have e:∀l:List Sx,kindsF l=(l.map Sx.t).map fun t=>kindF t.data.toList:=fun l=>by rw [List.map_map];rfl
 rw [e,e,h]
theorem cat_texts {l m:List Sx} (h:l.map Sx.t=m.map Sx.t) (i j:Nat):catF l i j=catF m i j:=by
 have e:∀l:List Sx,catF l i j=((((l.map Sx.t).take j).drop i).map fun t=>t.data.toList).flatten:=fun l=>by
  unfold catF
  rw [←List.map_take,←List.map_drop,List.map_map];rfl
 rw [e,e,h]
theorem join_gist {l m:List Sx} (h:l.map Sx.t=m.map Sx.t):(joinF l).map gist=(joinF m).map gist:=by
 unfold joinF
 rw [List.map_map,List.map_map,kinds_texts h]
 refine List.map_congr_left fun x _=>?_
 simp only [Function.comp,gist,wdF,cat_texts h]
theorem up_texts (S:List Sg):(S.map up).map Sx.t=S.map Sg.t:=by rw [List.map_map];rfl
theorem words_same {a b:List UInt8} (h:textF a=textF b) (lim:Int):(wordsF lim a).map gist=(wordsF lim b).map gist:=by
 obtain ⟨h1,h2⟩:=split_same h lim
 unfold wordsF
 rw [h1]
 split
 ·exact join_gist (by rw [up_texts,up_texts];exact h2)
 ·rfl
theorem run_join {l:List Sx} {x:Wd} (hx:x∈joinF l):∃s e,s < e∧e≤l.length∧x=wdF l (s,e):=by
 obtain ⟨⟨s,e⟩,hp,rfl⟩:=List.mem_map.1 hx
 obtain ⟨h1,h2⟩:=runs_within hp
 rw [marks_kinds_len] at h2
 exact ⟨s,e,h1,h2,rfl⟩
theorem good_mid {gs:List (List Int)} (h:Seg.Good opn gs) (i j:Nat):Seg.Good opn ((gs.take j).drop i):=by
 refine ⟨fun g hg=>h.1 g (List.mem_of_mem_take (List.mem_of_mem_drop hg)),fun g hg=>h.2 g ?_⟩
 cases gs with
 | nil=>simp at hg
 | cons x t =>
  cases j with
  | zero=>simp at hg
  | succ j =>
   rw [List.take_succ_cons] at hg
   cases i with
   | zero=>rw [List.drop_zero,List.tail_cons] at hg;exact List.mem_of_mem_take hg
   | succ i =>
    rw [List.drop_succ_cons] at hg
    exact List.mem_of_mem_take (List.mem_of_mem_drop (List.mem_of_mem_tail hg))
theorem ok_prefix (lim:Nat) (l:List UInt8):∃r,Seg.grp (dec false 0 l)=okS lim l++r:=by
 obtain ⟨r,hr⟩:=List.takeWhile_prefix (p:=fun g=>decide (flen g≤lim)) (l:=Seg.grp (dec false 0 l))
 exact ⟨r,hr.symm⟩
theorem grp_groups {l:List UInt8} {g:List Pt} (h:g∈Seg.grp (dec false 0 l)):g≠[]:=by
 obtain ⟨q,t,rfl⟩:=cuts_group opP h
 simp
theorem tile_wpos:∀{k:Nat} {g:List Pt},Tile k g→g≠[]→1≤ww g:=fun {k g} h hg=>by
 have:=tile_len h
 have:1≤g.length:=by cases g with | nil=>exact absurd rfl hg | cons=>simp
 omega
theorem tile_nth:∀(gs:List (List Pt)) (k i:Nat) (h:i < gs.length),Tile k gs.flatten→(∀g∈gs,g≠[])→Tile (k+ww (gs.take i).flatten) gs[i]
 | g :: t,k,0,_,ht,_=>by
  rw [List.flatten_cons,tile_append] at ht
  simpa [ww_nil] using ht.1
 | g :: t,k,i+1,h,ht,hn=>by
  rw [List.flatten_cons,tile_append] at ht
  have:=tile_nth t (k+ww g) i (by simpa using h) ht.2 (fun g hg=>hn g (by simp [hg]))
  rw [List.take_succ_cons,List.flatten_cons,ww_append,←Nat.add_assoc]
  exact this
theorem ww_take (gs:List (List Pt)) (i:Nat) (h:i < gs.length):ww (gs.take (i+1)).flatten=ww (gs.take i).flatten+ww gs[i]:=by
 rw [List.take_succ_eq_append_getElem h,List.flatten_append,ww_append]
 simp
theorem seg_at {lim:Nat} {l:List UInt8} {i:Nat} (h:i < (okS lim l).length) :
  beg (okS lim l)[i]=ww ((okS lim l).take i).flatten∧fin (okS lim l)[i]=ww ((okS lim l).take (i+1)).flatten∧1≤ww (okS lim l)[i]:=by
 obtain ⟨r,hr⟩:=ok_prefix lim l
 have hn:∀g∈okS lim l,g≠[]:=fun g hg=>grp_groups (l:=l) (by rw [hr];exact List.mem_append_left _ hg)
 have ht:Tile 0 (okS lim l).flatten:=by
  have h1:=dec_tile false l 0
  rw [←cuts_flat opP (dec false 0 l)] at h1
  have h2:cuts opP (dec false 0 l)=okS lim l++r:=hr
  rw [h2,List.flatten_append,tile_append] at h1
  exact h1.1
 have h1:=tile_nth _ 0 i h ht hn
 rw [Nat.zero_add] at h1
 have hne:=hn _ (List.getElem_mem h)
 refine ⟨tile_beg h1 hne,?_,tile_wpos h1 hne⟩
 rw [tile_fin h1 hne,ww_take _ _ h]
theorem ww_mono (gs:List (List Pt)) {i j:Nat} (h:i≤j):ww (gs.take i).flatten≤ww (gs.take j).flatten:=by
 obtain ⟨d,rfl⟩:∃d,j=i+d:=⟨j - i,by omega⟩
 rw [List.take_add,List.flatten_append,ww_append]
 omega
theorem ww_ok (lim:Nat) (l:List UInt8) (i:Nat):ww ((okS lim l).take i).flatten≤l.length:=by
 obtain ⟨r,hr⟩:=ok_prefix lim l
 have h1:=ww_all l 0
 rw [←cuts_flat opP (dec false 0 l)] at h1
 have h2:cuts opP (dec false 0 l)=okS lim l++r:=hr
 rw [h2,List.flatten_append,ww_append] at h1
 have h3:=ww_mono (okS lim l) (i:=i) (j:=i+(okS lim l).length) (by omega)
 rw [List.take_of_length_le (show (okS lim l).length≤i+(okS lim l).length by omega)] at h3
 omega
theorem enc_some {l:List Int} (h:l≠[]):enc l≠[]:=by
 cases l with
 | nil=>exact absurd rfl h
 | cons x t =>
  intro hh
  rw [show enc (x :: t)=enc [x]++enc t from Seg.enc_append [x] t] at hh
  have h1:=(List.append_eq_nil_iff.1 hh).1
  have h2:=runes_enc_len [x]
  rw [h1] at h2
  simp [runesF,dec_nil] at h2
theorem runes_some {l:List UInt8} (h:l≠[]):runesF l≠[]:=by
 intro hh
 rw [runesF,dec_cons false 0 h] at hh
 simp at hh
theorem key_some {l:List UInt8} (h:l≠[]):keyF l≠[]:=enc_some (keyN_some (runes_some h))
def midG (lim:Nat) (l:List UInt8) (s e:Nat):List (List Pt):=((okS lim l).take e).drop s
theorem cat_mid (lim:Nat) (l:List UInt8) (s e:Nat):catF (((okS lim l).map sgOf).map up) s e=enc ((midG lim l s e).map nrmP).flatten:=by
 rw [enc_flat,catF,←List.map_take,←List.map_take,←List.map_drop,←List.map_drop,List.map_map,List.map_map,List.map_map]
 rfl
theorem mid_good {lim:Nat} {l:List UInt8} {s e:Nat} (he:e≤(okS lim l).length):Seg.Good opn ((midG lim l s e).map runs):=by
 obtain ⟨r,hr⟩:=ok_prefix lim l
 have h1:=cuts_good opn (runs (dec false 0 l))
 rw [grp_runs,hr,List.map_append] at h1
 have h2:=good_mid h1 s e
 rw [List.take_append_of_le_length (by rw [List.length_map];exact he),←List.map_take,←List.map_drop] at h2
 exact h2
theorem runs_flat:∀gs:List (List Pt),runs gs.flatten=(gs.map runs).flatten
 | []=>rfl
 | g :: t=>by rw [List.flatten_cons,runs_append,runs_flat t];rfl
theorem mid_norm {lim:Nat} {l:List UInt8} {s e:Nat} (he:e≤(okS lim l).length):((midG lim l s e).map nrmP).flatten=normal (runs (midG lim l s e).flatten):=by
 have h:=(good_normal _ (mid_good (lim:=lim) (l:=l) (s:=s) he)).1
 rw [←runs_flat] at h
 rw [h,List.map_map];rfl
theorem mid_parts {lim:Nat} {l:List UInt8} {s e:Nat} (hs:s≤e):∃r,dec false 0 l=((okS lim l).take s).flatten++(midG lim l s e).flatten++r:=by
 obtain ⟨r,hr⟩:=ok_prefix lim l
 refine ⟨((okS lim l).drop e).flatten++r.flatten,?_⟩
 have h1:=cuts_flat opP (dec false 0 l)
 have h2:cuts opP (dec false 0 l)=okS lim l++r:=hr
 rw [h2,List.flatten_append] at h1
 have h3:(okS lim l).take s++midG lim l s e=(okS lim l).take e:=by
  have:=List.take_append_drop s ((okS lim l).take e)
  rw [List.take_take,Nat.min_eq_left hs] at this
  exact this
 have h4:(okS lim l).flatten=((okS lim l).take s).flatten++(midG lim l s e).flatten++((okS lim l).drop e).flatten:=by
  rw [←List.flatten_append,h3,←List.flatten_append,List.take_append_drop]
 rw [←h1,h4,List.append_assoc]
theorem mid_ww {lim:Nat} {l:List UInt8} {s e:Nat} (hs:s≤e):ww ((okS lim l).take e).flatten=ww ((okS lim l).take s).flatten+ww (midG lim l s e).flatten:=by
 have h3:(okS lim l).take s++midG lim l s e=(okS lim l).take e:=by
  have:=List.take_append_drop s ((okS lim l).take e)
  rw [List.take_take,Nat.min_eq_left hs] at this
  exact this
 rw [←h3,List.flatten_append,ww_append]
def offB (lim:Nat) (l:List UInt8) (i:Nat):Nat:=ww ((okS lim l).take i).flatten
set_option maxHeartbeats 1000000 in
theorem word_at {lim:Nat} {l:List UInt8} {x:Wd} (hx:x∈joinF (((okS lim l).map sgOf).map up)) :
  x.f < x.g∧x.g≤(okS lim l).length∧x.a=(offB lim l x.f:Nat)∧x.e=(offB lim l x.g:Nat)∧offB lim l x.f < offB lim l x.g∧offB lim l x.g≤l.length ∧
  x.k=keyF ((l.drop (offB lim l x.f)).take (offB lim l x.g - offB lim l x.f))∧x.k≠[]:=by
 obtain ⟨s,e,h1,h2,rfl⟩:=run_join hx
 rw [List.length_map,List.length_map] at h2
 have hs:s < (okS lim l).length:=by omega
 have he:e - 1 < (okS lim l).length:=by omega
 have ha:atF (((okS lim l).map sgOf).map up) s=(offB lim l s:Nat):=by
  rw [at_get (by rw [List.length_map,List.length_map];exact hs)]
  simp only [List.getElem_map,up,sgOf,(seg_at hs).1,offB]
 have hn:endF (((okS lim l).map sgOf).map up) (e - 1)=(offB lim l e:Nat):=by
  rw [end_get (by rw [List.length_map,List.length_map];exact he)]
  simp only [List.getElem_map,up,sgOf,(seg_at he).2.1,offB]
  rw [show e - 1+1=e by omega]
 have hw:offB lim l s < offB lim l e:=by
  have h3:=ww_mono (okS lim l) (i:=s+1) (j:=e) (by omega)
  have h4:=(seg_at hs).2.2
  rw [ww_take _ _ hs] at h3
  unfold offB;omega
 obtain ⟨r,hr⟩:=mid_parts (lim:=lim) (l:=l) (s:=s) (e:=e) (by omega)
 have hp:=piece_text hr
 have hm:=mid_ww (lim:=lim) (l:=l) (s:=s) (e:=e) (by omega)
 have hk:keyF (catF (((okS lim l).map sgOf).map up) s e)=keyF ((l.drop (offB lim l s)).take (offB lim l e - offB lim l s)):=by
  rw [cat_mid,mid_norm h2,←key_text ((l.drop (offB lim l s)).take (offB lim l e - offB lim l s))]
  congr 1
  rw [←hp]
  unfold offB
  rw [hm,Nat.add_sub_cancel_left]
 simp only [wdF,ha,hn,hk]
 refine ⟨h1,h2,trivial,trivial,hw,ww_ok lim l e,trivial,?_⟩
 have hne:(l.drop (offB lim l s)).take (offB lim l e - offB lim l s)≠[]:=by
  have h5:=ww_ok lim l e
  intro h
  have h6:=congrArg List.length h
  rw [List.length_take,List.length_drop] at h6
  simp at h6
  unfold offB at hw h6
  omega
 exact key_some hne
end Go.Proofs.YtdngaddggcmjgaaDoor.Words
namespace Go.Proofs.YtdngaddggcmjgaaDoor.Words
open Go.Shelf Go.RowKit Go.Sort
open Utf hiding infoI32 rd_new own_form own_below rdec_any below_drewN new_any write_any close_any infoU8
open Norm hiding new_any write_any close_any
open Seg
open Ucd hiding grow same Told grp
set_option maxRecDepth 100000
theorem text_room (l:List UInt8):(textF l).length≤12*l.length:=by
 have h1:=enc_le (normal (runesF l))
 have h2:=fulls_len (runesF l)
 have h4:=normal_len (runesF l)
 have h3:=runes_len l
 unfold textF
 omega
set_option maxHeartbeats 16000000 in
theorem key_any (A:Option Addr) (l:List UInt8) (m c:Nat) (w:World) (hL:Laid w) (hr:Rd w w.heap.size A (bys l)) (hm:l.length=m) (hc:m≤c) (hcm:c≤9223372036854775807) (hb:m≤2147483648) (hnb:(normal (runesF l)).length≤17179869184) :
  Calls Tryd.prog 9 #[.slice A m c] w (Ret w (.string ⟨(keyF l).toArray⟩)):=by
 obtain ⟨i0,hi,hz0,hz1,hz2⟩:=info_parts infoI32
 have HL:=Lib.hid hL
 have HC:=Lib.hid (text_any A l m c w hL hr hm hc hcm (by omega))
 obtain ⟨TS,hTS⟩:∃TS:ByteArray,TS=⟨(textF l).toArray⟩:=⟨_,rfl⟩
 rw [←hTS] at HC
 have hTL:TS.size≤34359738368:=by
  rw [hTS]
  show (textF l).toArray.size≤_
  rw [List.size_toArray]
  have h1:=text_room l
  omega
 have HR:=Lib.hid (fun (u:World)=>runes_any TS u (by omega))
 rw [show runesF TS.data.toList=normal (runesF l) by rw [hTS];exact runes_text l] at HR
 have hv:=normal_vld (runes_vld l)
 have HE:=Lib.hid (show keyF l=enc (normal (foldsF (normal (runesF l)))) from rfl)
 generalize normal (runesF l)=X at HR HE hnb hv
 have HV:=Lib.hid hv
 have HX:=Lib.hid hnb
 clear hL hr hm hc hcm hb hnb hv hTS hTL
 obtain ⟨n,hn⟩:∃n,n=X.length:=⟨_,rfl⟩
 have HXN:=Lib.hid hn
 have hnl:n≤17179869184:=by rw [hn];exact HX.out
 clear hn
 go_enter Tryd.func9,Tryd.ntmps9
 go_wp2_with fail
 refine HC.out.mono ?_
 rintro e w1 ⟨rfl,hb1⟩
 have HB1:=Lib.hid hb1
 clear hb1 HC
 go_wp2_with fail
 refine (HR.out w1).mono ?_
 rintro e w2 ⟨v,rfl,ho,hb2⟩
 obtain ⟨A2,c2,rfl,_,_,hr2⟩:=own_form ho
 rw [←HXN.out]
 have HR2:=Lib.hid hr2
 have HB2:=Lib.hid (HB1.out.trans (hb2.mono HB1.out.size))
 clear ho hr2 hb2 HR
 obtain ⟨B0,hB0⟩:∃B0,B0=w2.heap.size:=⟨_,rfl⟩
 have HB0:=Lib.hid hB0
 rw [←hB0] at HR2
 clear hB0
 go_wp2_with fail
 go_loopw [3,10] (fun vo i wr=>∃k:Nat,k≤n∧i=.int .i64 k∧Hid (wr.ownsRow B0 21 1 vo (foldsF (X.take k)).length (nums (foldsF (X.take k))))∧Hid (Below B0 w2 wr)) (fun _ i _=>n - (intOf i).toNat)
 case atStart=>exact ⟨0,Nat.zero_le _,rfl,Lib.hid (by simp only [List.take_zero,foldsF,List.flatMap_nil];exact World.ownsRow_nil _ _ _ _),Lib.hid (Below.refl _ _)⟩
 case round =>
  obtain ⟨k,hk,rfl,HO,HB⟩:=hrel
  have hbw:B0≤wr.heap.size:=by have:=HB.out.size;have:=HB0.out;omega
  have HBW:=Lib.hid (HB2.out.trans (HB.out.mono (by have:=HB2.out.size;have:=HB0.out;omega)))
  by_cases hlt:k < n
  ·have hkl:k < X.length:=by rw [←HXN.out];exact hlt
   obtain ⟨b,o,rfl,hbl⟩:=HR2.out.form (by rw [nums_len];omega)
   have hcell:wr.cell? ⟨b,o+k,none⟩=some (.int .i32 X[k]):=(HR2.out.below HB.out).num hkl
   have hvd:=HV.out X[k] (List.getElem_mem hkl)
   have hbd:=(vld_iff X[k]).1 hvd
   have HTK:=Lib.hid (show foldsF (X.take (k+1))=foldsF (X.take k)++foldF X[k] by rw [List.take_succ_eq_append_getElem hkl,folds_append];simp [foldsF])
   have h3:=(fold_len X[k]).2
   have HC:=Lib.hid (fold_any X[k] wr (HL.out.next HBW.out) (by omega) (by omega))
   have HDL:=Lib.hid (show (foldsF (X.take k)).length≤2*k by have:=folds_len (X.take k);rw [List.length_take] at this;omega)
   obtain ⟨D,hD⟩:∃D,D=foldsF (X.take k):=⟨_,rfl⟩
   rw [←hD] at HO HTK HDL
   generalize X[k]=r at hcell HTK h3 HC
   generalize foldF r=xs at HTK h3 HC
   obtain ⟨f,hf⟩:∃f,f=D.length:=⟨_,rfl⟩
   rw [←hf] at HO HDL
   have HFL:=Lib.hid hf
   have hfn:=HDL.out
   obtain ⟨q,hq⟩:∃q,q=xs.length:=⟨_,rfl⟩
   have HQ:=Lib.hid hq
   clear hkl hD hvd hbd hf
   go_wp2_with fail
   refine HC.out.mono ?_
   rintro e w3 ⟨Ad,cd,rfl,hd1,hd2,hrd,hb3⟩
   rw [←hq] at hd1 h3 ⊢
   have HRD:=Lib.hid hrd
   have HO1:=Lib.hid (own_below HO.out hb3)
   have HB3:=Lib.hid (HB.out.trans (hb3.mono hbw))
   have hb4:B0≤w3.heap.size:=by have:=hb3.size;omega
   clear hq hb3 hrd HC HO HB
   go_wp2_with (at_builtin;refine wpList_append_rd _ rfl (.tmp 14) (.tmp 16) _ rfl B0 21 i0 _ 1 4 Tryd.underlying35 hi hz0 hz1 hz2 rfl (by decide) u3 f (nums D) rfl HO1.out _ Ad q cd (nums xs) rfl (by rw [nums_len,HQ.out,Nat.mul_one]) HRD.out (nums_one xs) (by unfold maxLen;omega) (by omega) hb4 ?_;intro v6 w6 hown6 hgr6 hat6)
   have HO6:=Lib.hid (show w6.ownsRow B0 21 1 v6 (foldsF (X.take (k+1))).length (nums (foldsF (X.take (k+1)))) by
    rw [HTK.out,List.length_append,←HFL.out,←HQ.out,nums_append];exact hown6)
   have HB6:=Lib.hid (HB3.out.grown hgr6 hb4 (fun y hy=>(HO1.out.lt y hy).1))
   clear hown6 hgr6 hat6 HO1 HB3
   go_roundw
   case rel=>exact ⟨k+1,by omega,by go_num,HO6,HB6⟩
   case measure=>simp [intOf];omega
  ·have HXT:=Lib.hid (show X.take k=X by rw [List.take_of_length_le (by rw [←HXN.out];omega)])
   rw [HXT.out] at HO
   have hfl:=folds_len X
   obtain ⟨Y,hY⟩:∃Y,Y=foldsF X:=⟨_,rfl⟩
   rw [←hY] at HO hfl HE
   have HYL:=Lib.hid (show Y.length≤34359738368 by have:=HX.out;omega)
   have HNL:=Lib.hid (show (normal Y).length≤103079215104 by have:=nf_len (fulls Y);have:=fulls_len Y;have:=HYL.out;unfold normal;omega)
   obtain ⟨A4,c4,rfl,_,_,hr4⟩:=own_form HO.out
   have HR4:=Lib.hid hr4
   clear hY hfl hr4 HO HB
   go_wp2_with fail
   refine (normal_any A4 Y Y.length c4 wr (HL.out.next HBW.out) HR4.out rfl HYL.out).mono ?_
   rintro e w5 ⟨v,rfl,ho,hb5⟩
   obtain ⟨A5,c5,rfl,_,_,hr5⟩:=own_form ho
   have HR5:=Lib.hid hr5
   have HB5:=Lib.hid (HBW.out.trans (hb5.mono HBW.out.size))
   clear ho hr5 hb5
   go_wp2_with fail
   refine (encode_any A5 (normal Y) (normal Y).length c5 w5 HR5.out rfl (by have:=HNL.out;omega)).mono ?_
   rintro e w6 ⟨v,rfl,ho,hb6⟩
   obtain ⟨A6,c6,rfl,_,_,hr6⟩:=Utf.own_form ho
   have hcv:=conv_rd (c:=c6) hr6 rfl
   rw [←HE.out] at hcv ⊢
   have HB6:=Lib.hid (HB5.out.trans (hb6.mono HB5.out.size))
   clear ho hr6 hb6
   go_wp2_with fail
   go_ret
   exact ⟨rfl,HB6.out⟩
set_option maxHeartbeats 4000000 in
theorem wsame_any (a b:List UInt8) (A B:Option Addr) (m c n d:Nat) (w:World) (hL:Laid w) (ha:Rd w w.heap.size A (bys a)) (hb:Rd w w.heap.size B (bys b)) (hm:a.length=m) (hc:m≤c) (hcm:c≤9223372036854775807) (hn:b.length=n) (hd:n≤d) (hdm:d≤9223372036854775807)
  (hbm:m≤2147483648) (hbn:n≤2147483648) (hka:(normal (runesF a)).length≤17179869184) (hkb:(normal (runesF b)).length≤17179869184) :
  Calls Tryd.prog 12 #[.slice A m c,.slice B n d] w (Ret w (.bool (decide (keyF a=keyF b)))):=by
 have HK:=Lib.hid (key_any A a m c w hL ha hm hc hcm hbm hka)
 have HR:=Lib.hid (fun (u:World) (h:Below w.heap.size w u)=>key_any B b n d u (hL.next h) ((hb.below h).more h.size) hn hd hdm hbn hkb)
 obtain ⟨KS,hKS⟩:∃KS:ByteArray,KS=⟨(keyF a).toArray⟩:=⟨_,rfl⟩
 obtain ⟨KB,hKB⟩:∃KB:ByteArray,KB=⟨(keyF b).toArray⟩:=⟨_,rfl⟩
 have hsb:(KS.toList == KB.toList)=decide (keyF a=keyF b):=by
  rw [hKS,hKB,bytes_list,bytes_list,Bool.eq_iff_iff,beq_iff_eq,decide_eq_true_eq]
 rw [←hKS] at HK
 rw [←hKB] at HR
 generalize decide (keyF a=keyF b)=z at hsb ⊢
 clear hL ha hb hm hc hcm hn hd hdm hbm hbn hka hkb hKS hKB
 go_enter Tryd.func12,Tryd.ntmps12
 go_wp2_with fail
 refine HK.out.mono ?_
 rintro e w1 ⟨rfl,hb1⟩
 have HB1:=Lib.hid hb1
 clear hb1
 go_wp2_with fail
 refine (HR.out w1 HB1.out).mono ?_
 rintro e w2 ⟨rfl,hb2⟩
 have HB2:=Lib.hid (HB1.out.trans (hb2.mono HB1.out.size))
 clear hb2
 go_wp2_with fail
 go_ret
 exact ⟨rfl,HB2.out⟩
end Go.Proofs.YtdngaddggcmjgaaDoor.Words
namespace Go.Proofs.YtdngaddggcmjgaaDoor.Words
open Go.Shelf Go.RowKit Go.Sort
open Utf hiding infoI32 rd_new own_form own_below rdec_any below_drewN new_any write_any close_any infoU8
open Norm hiding new_any write_any close_any
open Seg
open Ucd hiding grow same Told grp
set_option maxRecDepth 100000
theorem first_four {l:List UInt8} (h:l≠[]):∃r rs rs',runesF l=r :: rs∧runesF (l.take 4)=r :: rs':=by
 have h4:l.take 4≠[]:=by cases l <;> simp_all
 have e:rune (l.take 4)=rune l:=by
  by_cases hl:l.length≤4
  ·rw [List.take_of_length_le hl]
  ·have hm:more (l.take 4)=false:=by
    cases hm:more (l.take 4) with
    | false=>rfl
    | true=>have:=(more_short hm).1;rw [List.length_take] at this;omega
   have:=rune_append (l.drop 4) h4 hm
   rw [List.take_append_drop] at this
   exact this.symm
 refine ⟨(rune l:Int),(dec false (0+wid l) (l.drop (wid l))).map fun q=>(q.r:Int),(dec false (0+wid (l.take 4)) ((l.take 4).drop (wid (l.take 4)))).map fun q=>(q.r:Int),?_,?_⟩
 ·rw [runesF,dec_step false 0 h rfl];rfl
 ·rw [runesF,dec_step false 0 h4 rfl,List.map_cons,e]
def pointF (r:Int):Int:=if r=95 then 3 else if cat r=1 then 1 else if cat r=3 then 2 else 0
set_option maxHeartbeats 4000000 in
theorem point_any (r:Int) (w:World) (hL:Laid w):Calls Tryd.prog 67 #[.int .i32 r] w (Ret w (.int .u8 (pointF r))):=by
 have HC:=Lib.hid (category_any r w hL)
 clear hL
 by_cases h95:r=95
 ·have q95:(r == 95)=true:=by simpa using h95
  rw [pointF,if_pos h95]
  clear h95
  go_enter Tryd.func67,Tryd.ntmps67
  go_wp2_with fail
  go_ret
  exact ⟨rfl,Below.refl _ _⟩
 have q95:(r == 95)=false:=by simpa using h95
 rw [pointF,if_neg h95]
 clear h95
 generalize cat r=cx at HC ⊢
 by_cases hc1:cx=1
 ·rw [if_pos hc1]
  subst hc1
  go_enter Tryd.func67,Tryd.ntmps67
  go_wp2_with fail
  refine HC.out.mono ?_
  rintro e w1 ⟨rfl,hb1⟩
  go_wp2_with fail
  go_ret
  exact ⟨rfl,hb1⟩
 rw [if_neg hc1]
 by_cases hc3:cx=3
 ·rw [if_pos hc3]
  subst hc3
  clear hc1
  go_enter Tryd.func67,Tryd.ntmps67
  go_wp2_with fail
  refine HC.out.mono ?_
  rintro e w1 ⟨rfl,hb1⟩
  go_wp2_with fail
  go_ret
  exact ⟨rfl,hb1⟩
 rw [if_neg hc3]
 have qc1:(cx == 1)=false:=by simpa using hc1
 have qc3:(cx == 3)=false:=by simpa using hc3
 clear hc1 hc3
 go_enter Tryd.func67,Tryd.ntmps67
 go_wp2_with fail
 refine HC.out.mono ?_
 rintro e w1 ⟨rfl,hb1⟩
 go_wp2_with fail
 go_ret
 exact ⟨rfl,hb1⟩
set_option maxHeartbeats 8000000 in
theorem kindOf_any (T:ByteArray) (l:List UInt8) (hT:T.data.toList=l) (w:World) (hL:Laid w) (hb:l.length≤34359738368) :
  Calls Tryd.prog 46 #[.string T] w (Ret w (.int .u8 (kindF l))):=by
 have HL:=Lib.hid hL
 have HQ:=Lib.hid (fun x:List UInt8=>(show (T.toList == x)=decide (l=x) by rw [bytes_list,hT,Bool.eq_iff_iff,beq_iff_eq,decide_eq_true_eq]))
 have HT:=Lib.hid hT
 have HB:=Lib.hid hb
 clear hL hT hb
 by_cases h0:l=[]
 ·have q0:(T.toList == [])=true:=(HQ.out _).trans (decide_eq_true h0)
  rw [show kindF l=0 by subst h0;exact kind_none rfl]
  clear h0
  go_enter Tryd.func46,Tryd.ntmps46
  go_wp2_with fail
  go_ret
  exact ⟨rfl,Below.refl _ _⟩
 have q0:(T.toList == [])=false:=(HQ.out _).trans (decide_eq_false h0)
 by_cases h1:l=[39]
 ·have q1:(T.toList == [39])=true:=(HQ.out _).trans (decide_eq_true h1)
  rw [show kindF l=4 by rw [kindF,if_pos (show joint l=true from decide_eq_true (.inl h1))]]
  clear h0 h1
  go_enter Tryd.func46,Tryd.ntmps46
  go_wp2_with fail
  go_ret
  exact ⟨rfl,Below.refl _ _⟩
 have q1:(T.toList == [39])=false:=(HQ.out _).trans (decide_eq_false h1)
 by_cases h2:l=[226,128,153]
 ·have q2:(T.toList == [226,128,153])=true:=(HQ.out _).trans (decide_eq_true h2)
  rw [show kindF l=4 by rw [kindF,if_pos (show joint l=true from decide_eq_true (.inr (.inl h2)))]]
  clear h0 h1 h2
  go_enter Tryd.func46,Tryd.ntmps46
  go_wp2_with fail
  go_ret
  exact ⟨rfl,Below.refl _ _⟩
 have q2:(T.toList == [226,128,153])=false:=(HQ.out _).trans (decide_eq_false h2)
 by_cases h3:l=[194,183]
 ·have q3:(T.toList == [194,183])=true:=(HQ.out _).trans (decide_eq_true h3)
  rw [show kindF l=4 by rw [kindF,if_pos (show joint l=true from decide_eq_true (.inr (.inr h3)))]]
  clear h0 h1 h2 h3
  go_enter Tryd.func46,Tryd.ntmps46
  go_wp2_with fail
  go_ret
  exact ⟨rfl,Below.refl _ _⟩
 have q3:(T.toList == [194,183])=false:=(HQ.out _).trans (decide_eq_false h3)
 have hj:joint l=false:=decide_eq_false (by rintro (h | h | h) <;> contradiction)
 obtain ⟨r,rs,rs',hr1,hr4⟩:=first_four h0
 have hk:=kind_rest hr1 hj
 clear h1 h2 h3 hj hr1
 by_cases h4:l=[46]
 ·have q4:(T.toList == [46])=true:=(HQ.out _).trans (decide_eq_true h4)
  rw [hk,restF,if_pos (.inl h4)]
  clear h0 h4 hk hr4
  go_enter Tryd.func46,Tryd.ntmps46
  go_wp2_with fail
  go_ret
  exact ⟨rfl,Below.refl _ _⟩
 have q4:(T.toList == [46])=false:=(HQ.out _).trans (decide_eq_false h4)
 by_cases h5:l=[44]
 ·have q5:(T.toList == [44])=true:=(HQ.out _).trans (decide_eq_true h5)
  rw [hk,restF,if_pos (.inr h5)]
  clear h0 h4 h5 hk hr4
  go_enter Tryd.func46,Tryd.ntmps46
  go_wp2_with fail
  go_ret
  exact ⟨rfl,Below.refl _ _⟩
 have q5:(T.toList == [44])=false:=(HQ.out _).trans (decide_eq_false h5)
 rw [restF,if_neg (by rintro (h | h) <;> contradiction)] at hk
 have HK:=Lib.hid (show kindF l=pointF r from hk)
 rw [HK.out]
 have HP:=Lib.hid (fun u hu=>point_any r u hu)
 generalize pointF r=kd at HP ⊢
 clear h0 h4 h5 hk HK
 obtain ⟨FT,hFT⟩:∃FT,FT=T.extract 0 (min (T.size:Int) 4).toNat:=⟨_,rfl⟩
 have HFT:=Lib.hid hFT
 have hfl:FT.data.toList=l.take 4:=by
  have hs:T.size=l.length:=by rw [←HT.out];exact Array.length_toList.symm
  rw [hFT,ByteArray.data_extract,Array.toList_extract,HT.out,hs,List.extract_eq_take_drop,List.drop_zero]
  by_cases h:l.length≤4
  ·rw [List.take_of_length_le h,List.take_of_length_le (by omega)]
  ·rw [show (min (l.length:Int) 4).toNat - 0=4 by omega]
 have hfs:FT.size≤4:=by
  have h1:FT.size=FT.data.toList.length:=Array.length_toList.symm
  rw [h1,hfl,List.length_take];omega
 have HR:=Lib.hid (runes_any FT w (by omega))
 rw [hfl,hr4] at HR
 obtain ⟨xl,hxl⟩:∃xl,xl=(r :: rs').length:=⟨_,rfl⟩
 have HXL:=Lib.hid hxl
 have hxp:0 < xl:=by rw [hxl];simp
 clear hFT hfl hfs hr4 hxl
 go_enter Tryd.func46,Tryd.ntmps46
 go_wp2_with fail
 rw [←HFT.out]
 refine HR.out.mono ?_
 rintro e w1 ⟨v,rfl,ho,hb1⟩
 obtain ⟨A1,c1,rfl,_,_,hr1⟩:=own_form ho
 obtain ⟨b1,o1,rfl,hbl1⟩:=hr1.form (by rw [nums_len];simp)
 have hcell:w1.cell? ⟨b1,o1,none⟩=some (.int .i32 r):=by have:=hr1.num (k:=0) (by simp);simpa using this
 have HB1:=Lib.hid hb1
 rw [←HXL.out]
 clear ho hr1 hb1 HR
 go_wp2_with fail
 refine (HP.out w1 (HL.out.next HB1.out)).mono ?_
 rintro e w2 ⟨rfl,hb2⟩
 have HB2:=Lib.hid (HB1.out.trans (hb2.mono HB1.out.size))
 clear hb2
 go_wp2_with fail
 go_ret
 exact ⟨rfl,HB2.out⟩
end Go.Proofs.YtdngaddggcmjgaaDoor.Words
namespace Go.Proofs.YtdngaddggcmjgaaDoor.Words
def opnR (k e:Nat):Option Nat:=if k < e then some k else none
theorem runs_start (k:Nat):opnR k k=none:=if_neg (Nat.lt_irrefl k)
theorem runs_on {m:List Bool} {k e:Nat} (hk:k≤e) (h:e < m.length) (hb:m[e]=true):runsB e (opnR k e) (m.drop e)=runsB (e+1) (opnR k (e+1)) (m.drop (e+1)):=by
 rw [List.drop_eq_getElem_cons h,hb]
 unfold opnR
 rw [if_pos (show k < e+1 by omega)]
 by_cases he:k < e
 ·rw [if_pos he];rfl
 ·rw [if_neg he,show k=e by omega];rfl
theorem runs_stop {m:List Bool} {k e:Nat} (hk:k < e) (hb:∀h:e < m.length,m[e]=false):runsB e (opnR k e) (m.drop e)=(k,e) :: runsB (e+1) none (m.drop (e+1)):=by
 unfold opnR
 rw [if_pos hk]
 by_cases h:e < m.length
 ·rw [List.drop_eq_getElem_cons h,hb h];rfl
 ·rw [List.drop_of_length_le (by omega),List.drop_of_length_le (by omega)];rfl
theorem runs_off {m:List Bool} {k:Nat} (h:k < m.length) (hb:m[k]=false):runsB k none (m.drop k)=runsB (k+1) none (m.drop (k+1)):=by
 rw [List.drop_eq_getElem_cons h,hb];rfl
theorem runs_end {m:List Bool} {k:Nat} (h:m.length≤k):runsB k none (m.drop k)=[]:=by
 rw [List.drop_of_length_le h];rfl
theorem runs_few (m:List Bool):(runsF m).length≤m.length:=by
 have h1:=out_len m m.length
 have h2:outF m m.length=runsF m:=st_end _
 rwa [h2] at h1
end Go.Proofs.YtdngaddggcmjgaaDoor.Words
namespace Go.Proofs.YtdngaddggcmjgaaDoor.Words
open Go.Shelf Go.RowKit Go.Sort
open Utf hiding infoI32 rd_new own_form own_below rdec_any below_drewN new_any write_any close_any infoU8
open Norm hiding new_any write_any close_any
open Seg hiding take_any
open Ucd hiding grow same Told grp
set_option maxRecDepth 100000
def k8 (l:List Int):List Value:=l.map (.int .u8)
theorem k8_len (l:List Int):(k8 l).length=l.length:=List.length_map _
theorem infoKind:(Tryd.prog.info? 73).map (fun i=>(i.zero,i.size,i.bytes))=some (some (.int .u8 0),1,1):=by kernel_rfl
theorem made_k8 (n:Nat):madeCells #[Value.int .u8 0] n=(k8 (List.replicate n 0)).toArray:=by
 rw [show (k8 (List.replicate n 0))=List.replicate n (Value.int .u8 0) from by simp [k8],←toList_madeCells_one]
def mixK (l:List Int) (k:Nat):List Int:=l.take k++List.replicate (l.length - k) 0
theorem mixK_len (l:List Int) (k:Nat) (h:k≤l.length):(mixK l k).length=l.length:=by
 unfold mixK;rw [List.length_append,List.length_take,List.length_replicate];omega
theorem mixK_next {l:List Int} {k:Nat} (h:k < l.length):(k8 (mixK l k)).set k (.int .u8 l[k])=k8 (mixK l (k+1)):=by
 unfold k8 mixK
 have hl:(l.take k).length=k:=by rw [List.length_take];omega
 rw [←List.map_set,List.set_append_right _ _ (by omega),hl,Nat.sub_self,show l.length - k=(l.length - (k+1))+1 by omega,List.replicate_succ,List.set_cons_zero,List.take_succ_eq_append_getElem h,List.append_assoc]
 rfl
theorem mixK_end (l:List Int):mixK l l.length=l:=by unfold mixK;rw [List.take_length,Nat.sub_self];simp
theorem Rd_k8 {w:World} {B:Nat} {l:List Int} {b o:Nat} (h:Rd w B (some ⟨b,o,none⟩) (k8 l)) {k:Nat} (hk:k < l.length):w.cell? ⟨b,o+k,none⟩=some (.int .u8 l[k]):=by
 obtain ⟨b',o',e,_,hc⟩:=h (fun e=>by have:=k8_len l;rw [e] at this;simp at this;omega)
 simp only [Option.some.injEq,Addr.mk.injEq,and_true] at e
 obtain ⟨rfl,rfl⟩:=e
 exact hc k _ (by simp [k8,List.getElem?_eq_getElem hk])
theorem blk_rd {w:World} {g:Nat} {t:TypeId} {xs:List Value} (h:Blk w g t xs):Rd w w.heap.size (some ⟨g,0,none⟩) xs:=fun _=>⟨g,0,rfl,h.lt,fun j x hx=>by rw [h.cell,Nat.zero_add];exact hx⟩
set_option maxHeartbeats 8000000 in
theorem kindsOf_any (A:Option Addr) (l:List Sx) (n c:Nat) (w:World) (hL:Laid w) (hr:Rd w w.heap.size A (sxs l)) (hn:l.length=n) (hsm:n≤4294967296) (ht:total l≤2147483648) :
  Calls Tryd.prog 31 #[.slice A n c] w fun e w'=>∃g,e=.returned (.slice (some ⟨g,0,none⟩) n n)∧Blk w' g 73 (k8 (kindsF l))∧Below w.heap.size w w':=by
 obtain ⟨ik,hk0,hk1,hk2,hk3⟩:=info_parts infoKind
 have hmk:(Instr.makeSlice 53 (.int .i64 (n:Int)) (.int .i64 (n:Int))).run Tryd.prog w=.ok (.slice (some ⟨w.heap.size,0,none⟩) n n) (w.alloc (.cells (k8 (List.replicate n 0)).toArray 73)):=by
  have h:=run_make (P:=Tryd.prog) w 53 73 ik (.int .u8 0) Tryd.underlying53 hk0 hk1 .i64 .i64 n n (by omega) (by omega) (by rw [hk3];omega) (by omega)
  rw [Int.toNat_natCast,hk2,Nat.mul_one] at h
  rw [h]
  show Result.ok _ (w.alloc (.cells (madeCells #[Value.int .u8 0] n) _))=_
  rw [made_k8]
 have HR:=Lib.hid hr
 have HL:=Lib.hid hL
 have HN:=Lib.hid hn
 have HT:=Lib.hid ht
 have HKN:=Lib.hid (show (kindsF l).length=n by rw [kinds_len];exact hn)
 have HB0:=Lib.hid (show Blk (w.alloc (.cells (k8 (List.replicate n 0)).toArray 73)) w.heap.size 73 (k8 (mixK (kindsF l) 0)) by
  unfold mixK;rw [List.take_zero,List.nil_append,Nat.sub_zero,HKN.out];exact Blk.new w _ _)
 have HW0:=Lib.hid (show Below w.heap.size w (w.alloc (.cells (k8 (List.replicate n 0)).toArray 73)) from (Below.refl _ _).alloc (Nat.le_refl _) _)
 clear hr hL hn ht
 go_enter Tryd.func31,Tryd.ntmps31
 go_wp2_with fail
 obtain ⟨g,hg⟩:∃g,g=w.heap.size:=⟨_,rfl⟩
 have HG:=Lib.hid hg
 rw [←hg] at HB0
 rw [←hg]
 clear hg hmk
 go_loopw [11] (fun v wr=>∃k:Nat,k≤n∧v=.int .i64 k∧Hid (Blk wr g 73 (k8 (mixK (kindsF l) k)))∧Hid (Below w.heap.size w wr)) (fun v _=>n - (intOf v).toNat)
 case atStart=>exact ⟨0,Nat.zero_le _,rfl,HB0,HW0⟩
 case round =>
  clear HB0 HW0
  obtain ⟨k,hk,rfl,HB,HW⟩:=hrel
  by_cases hlt:k < n
  ·have hkl:k < l.length:=by rw [HN.out];exact hlt
   have hks:k < (kindsF l).length:=by rw [HKN.out];exact hlt
   obtain ⟨b,o,rfl,hbl⟩:=HR.out.form (by rw [sxs_len];omega)
   obtain ⟨c1,c2,c3⟩:=Rd_sx (HR.out.below HW.out) hkl
   have HC:=Lib.hid (fun (v:World) (hv:Laid v)=>kindOf_any l[k].t (txt l[k]) rfl v hv (by have:=txt_len (List.getElem_mem hkl);have:=HT.out;omega))
   have HMX:=Lib.hid (mixK_next hks)
   rw [kinds_get hkl] at HMX
   generalize kindF (txt l[k])=kd at HC HMX
   generalize l[k].t=x at c1 HC
   generalize l[k].a=y1 at c2
   generalize l[k].e=y2 at c3
   have hbw:b < wr.heap.size:=by have:=HW.out.size;omega
   have hww:w.heap.size≤wr.heap.size:=HW.out.size
   clear hkl hks
   go_wp2_with fail
   obtain ⟨w1,hw1⟩:∃w1,w1=wr.alloc (.cells #[.string x,.int .i64 y1,.int .i64 y2] 72):=⟨_,rfl⟩
   have HB1:=Lib.hid (show Blk w1 g 73 (k8 (mixK (kindsF l) k)) by rw [hw1];exact HB.out.alloc _)
   have HW1:=Lib.hid (show Below w.heap.size w w1 by rw [hw1];exact HW.out.alloc hww _)
   rw [←hw1]
   clear hw1 HB HW c1 c2 c3
   refine (HC.out w1 (HL.out.next HW1.out)).mono ?_
   rintro e w2 ⟨rfl,hb2⟩
   have HB2:=Lib.hid (HB1.out.below hb2 HB1.out.lt)
   have HW2:=Lib.hid (HW1.out.trans (hb2.mono HW1.out.size))
   obtain ⟨z,hz⟩:∃z,w2.cell? ⟨g,k,none⟩=some z:=by
    rw [HB2.out.cell k,List.getElem?_eq_getElem (by rw [k8_len,mixK_len _ _ (by rw [HKN.out];omega),HKN.out];exact hlt)]
    exact ⟨_,rfl⟩
   have hf:=HB2.out.frozen k
   have hgw:w.heap.size≤g:=Nat.le_of_eq HG.out.symm
   clear hb2 HB1 HW1
   go_wp2_with fail
   have HB3:=Lib.hid (show Blk (w2.setCell ⟨g,k,none⟩ (.int .u8 kd)) g 73 (k8 (mixK (kindsF l) (k+1))) by rw [←HMX.out];exact HB2.out.set_ k _)
   have HW3:=Lib.hid (HW2.out.setCell (p:=⟨g,k,none⟩) hgw (.int .u8 kd))
   go_roundw
   case rel=>exact ⟨k+1,by omega,by go_num,HB3,HW3⟩
   case measure=>simp [intOf];omega
  ·have hkn:k=(kindsF l).length:=by rw [HKN.out];omega
   rw [hkn,mixK_end] at HB
   go_wp2_with fail
   go_ret
   exact ⟨g,rfl,HB.out,HW.out⟩
theorem get_D {ks:List Int} {i:Nat} (h:i < ks.length):ks.getD i 0=ks[i]:=by simp [List.getD_eq_getElem?_getD,List.getElem?_eq_getElem h]
set_option maxHeartbeats 8000000 in
theorem between_any (A:Option Addr) (ks:List Int) (n c i:Nat) (kd:Int) (w:World) (hr:Rd w w.heap.size A (k8 ks)) (hn:ks.length=n) (hi:i < n) (hsm:n≤4294967296) :
  Calls Tryd.prog 47 #[.slice A n c,.int .i64 i,.int .u8 kd] w (Ret w (.bool (decide (0 < i∧i+1 < n) && (ks.getD (i - 1) 0 == kd && ks.getD (i+1) 0 == kd)))):=by
 obtain ⟨b,o,rfl,hbl⟩:=hr.form (by rw [k8_len];omega)
 by_cases h0:0 < i
 ·by_cases h1:i+1 < n
  ·rw [decide_eq_true ⟨h0,h1⟩,Bool.true_and,get_D (by omega),get_D (by omega)]
   have c1:=Rd_k8 hr (k:=i - 1) (by omega)
   have c2:=Rd_k8 hr (k:=i+1) (by omega)
   have d1:decide ((0:Int) < (i:Int))=true:=decide_eq_true (by omega)
   have d2:decide (((i:Int)+1) < (n:Int))=true:=decide_eq_true (by omega)
   have ht:((i:Int) - 1).toNat=i - 1:=by omega
   have ht1:((i:Int)+1).toNat=i+1:=by omega
   generalize ks[i - 1]=x1 at c1 ⊢
   generalize ks[i+1]=x2 at c2 ⊢
   clear hr
   by_cases hx:x1=kd
   ·have e1:(x1 == kd)=true:=by simpa using hx
    rw [e1,Bool.true_and]
    clear hx
    go_enter Tryd.func47,Tryd.ntmps47
    go_wp2_with fail
    go_ret
    exact ⟨rfl,Below.refl _ _⟩
   ·have e1:(x1 == kd)=false:=by simpa using hx
    rw [e1,Bool.false_and]
    clear hx
    go_enter Tryd.func47,Tryd.ntmps47
    go_wp2_with fail
    go_ret
    exact ⟨rfl,Below.refl _ _⟩
  ·rw [decide_eq_false (show ¬(0 < i∧i+1 < n) by omega),Bool.false_and]
   have d1:decide ((0:Int) < (i:Int))=true:=decide_eq_true (by omega)
   have d2:decide (((i:Int)+1) < (n:Int))=false:=decide_eq_false (by omega)
   clear hr
   go_enter Tryd.func47,Tryd.ntmps47
   go_wp2_with fail
   go_ret
   exact ⟨rfl,Below.refl _ _⟩
 ·rw [decide_eq_false (show ¬(0 < i∧i+1 < n) by omega),Bool.false_and]
  have d1:decide ((0:Int) < (i:Int))=false:=decide_eq_false (by omega)
  clear hr
  go_enter Tryd.func47,Tryd.ntmps47
  go_wp2_with fail
  go_ret
  exact ⟨rfl,Below.refl _ _⟩
set_option maxHeartbeats 8000000 in
theorem belongs_any (A:Option Addr) (ks:List Int) (n c i:Nat) (w:World) (hr:Rd w w.heap.size A (k8 ks)) (hn:ks.length=n) (hi:i < n) (hsm:n≤4294967296) (hk:0≤ks.getD i 0∧ks.getD i 0≤5) :
  Calls Tryd.prog 32 #[.slice A n c,.int .i64 i] w (Ret w (.bool (inF ks i))):=by
 have HC:=Lib.hid (fun (kd:Int) (u:World) (hu:Rd u u.heap.size A (k8 ks))=>between_any A ks n c i kd u hu hn hi hsm)
 obtain ⟨b,o,rfl,hbl⟩:=hr.form (by rw [k8_len];omega)
 have HR:=Lib.hid hr
 have c1:=Rd_k8 hr (k:=i) (by omega)
 have HI:=Lib.hid (show inF ks i=if ks.getD i 0 > 3 then decide (0 < i∧i+1 < n) && (ks.getD (i - 1) 0 == ks.getD i 0 - 3 && ks.getD (i+1) 0 == ks.getD i 0 - 3) else decide (1≤ks.getD i 0) by rw [←hn];rfl)
 rw [←get_D (by omega)] at c1
 generalize ks.getD i 0=kv at c1 hk HI
 clear hr
 have h6:kv=0∨kv=1∨kv=2∨kv=3∨kv=4∨kv=5:=by omega
 clear hk
 rcases h6 with rfl | rfl | rfl | rfl | rfl | rfl
 ·rw [show inF ks i=false from HI.out.trans (by simp)]
  go_enter Tryd.func32,Tryd.ntmps32
  go_wp2_with fail
  go_ret
  exact ⟨rfl,Below.refl _ _⟩
 ·rw [show inF ks i=true from HI.out.trans (by simp)]
  go_enter Tryd.func32,Tryd.ntmps32
  go_wp2_with fail
  go_ret
  exact ⟨rfl,Below.refl _ _⟩
 ·rw [show inF ks i=true from HI.out.trans (by simp)]
  go_enter Tryd.func32,Tryd.ntmps32
  go_wp2_with fail
  go_ret
  exact ⟨rfl,Below.refl _ _⟩
 ·rw [show inF ks i=true from HI.out.trans (by simp)]
  go_enter Tryd.func32,Tryd.ntmps32
  go_wp2_with fail
  go_ret
  exact ⟨rfl,Below.refl _ _⟩
 ·have HC1:=Lib.hid (HC.out 1 w HR.out)
  rw [show inF ks i=(decide (0 < i∧i+1 < n) && (ks.getD (i - 1) 0 == 1 && ks.getD (i+1) 0 == 1)) from HI.out.trans (by simp)]
  generalize (decide (0 < i∧i+1 < n) && (ks.getD (i - 1) 0 == 1 && ks.getD (i+1) 0 == 1))=q at HC1 ⊢
  go_enter Tryd.func32,Tryd.ntmps32
  go_wp2_with fail
  refine HC1.out.mono ?_
  rintro e w1 ⟨rfl,hb1⟩
  go_wp2_with fail
  go_ret
  exact ⟨rfl,hb1⟩
 ·have HC1:=Lib.hid (HC.out 2 w HR.out)
  rw [show inF ks i=(decide (0 < i∧i+1 < n) && (ks.getD (i - 1) 0 == 2 && ks.getD (i+1) 0 == 2)) from HI.out.trans (by simp)]
  generalize (decide (0 < i∧i+1 < n) && (ks.getD (i - 1) 0 == 2 && ks.getD (i+1) 0 == 2))=q at HC1 ⊢
  go_enter Tryd.func32,Tryd.ntmps32
  go_wp2_with fail
  refine HC1.out.mono ?_
  rintro e w1 ⟨rfl,hb1⟩
  go_wp2_with fail
  go_ret
  exact ⟨rfl,hb1⟩
end Go.Proofs.YtdngaddggcmjgaaDoor.Words
namespace Go.Proofs.YtdngaddggcmjgaaDoor.Words
open Utf hiding infoU8
open Norm Seg
open Ucd hiding same grp
section
variable {f:Int→Int} (hf:∀x,cls (f x)=cls x)
include hf
theorem ins_map (x:Int):∀l:List Int,ins (f x) (l.map f)=(ins x l).map f
 | []=>rfl
 | y :: t=>by
  simp only [List.map_cons,ins,hf]
  split
  ·rw [List.map_cons,ins_map x t]
  ·rfl
theorem ord_map (l:List Int):ord (l.map f)=(ord l).map f:=by
 refine snoc_rec (p:=fun l=>ord (l.map f)=(ord l).map f) rfl (fun l x ih=>?_) l
 rw [List.map_append,List.map_cons,List.map_nil,ord_snoc,ord_snoc,ih,ins_map hf]
theorem nfm_map:∀(D m:List Int),nfm (m.map f) (D.map f)=(nfm m D).map f
 | [],m=>by rw [List.map_nil,nfm_nil,nfm_nil,ord_map hf]
 | x :: t,m=>by
  by_cases h:cls x=0
  ·rw [List.map_cons,nfm_start _ _ (by rw [hf];exact h),nfm_start _ _ h,ord_map hf,List.map_append,List.map_cons]
   have:=nfm_map t []
   rw [List.map_nil] at this
   rw [nf,nf,this]
  ·rw [List.map_cons,nfm_mark _ _ (by rw [hf];exact h),nfm_mark _ _ h,←nfm_map t (m++[x])]
   simp
theorem nf_map (D:List Int):nf (D.map f)=(nf D).map f:=nfm_map hf D []
end
def lowR (y:Int):Int:=if 65≤y∧y≤90 then y+32 else y
def upR (x:Int):Int:=if 97≤x∧x≤122 then x - 32 else x
theorem low_all:∀i < 26,cls (65+(i:Nat)+32)=cls (65+(i:Nat))∧foldF (65+(i:Nat)+32)=foldF (65+(i:Nat)):=by decide +kernel
theorem up_all:∀i < 26,fullF (97+(i:Nat))=[(97:Int)+((i:Nat):Int)]∧fullF (97+(i:Nat) - 32)=[(97:Int)+((i:Nat):Int) - 32]:=by decide +kernel
theorem low_at (y:Int):cls (lowR y)=cls y∧foldF (lowR y)=foldF y:=by
 unfold lowR
 split
 ·rename_i h
  have:=low_all (y - 65).toNat (by omega)
  rw [show (65:Int)+((y - 65).toNat:Nat)=y by omega] at this
  exact this
 ·exact ⟨rfl,rfl⟩
theorem up_low (x:Int):(fullF (upR x)).map lowR=(fullF x).map lowR:=by
 unfold upR
 split
 ·rename_i h
  have:=up_all (x - 97).toNat (by omega)
  rw [show (97:Int)+((x - 97).toNat:Nat)=x by omega] at this
  rw [this.1,this.2]
  simp only [List.map_cons,List.map_nil]
  unfold lowR
  rw [if_pos (by omega),if_neg (by omega)]
  congr 1
  omega
 ·rfl
theorem fulls_up (R:List Int):(fulls (R.map upR)).map lowR=(fulls R).map lowR:=by
 induction R with
 | nil=>rfl
 | cons x t ih=>rw [List.map_cons,fulls_cons,fulls_cons,List.map_append,List.map_append,ih,up_low]
theorem folds_low (X:List Int):foldsF (X.map lowR)=foldsF X:=by
 induction X with
 | nil=>rfl
 | cons x t ih =>
  rw [foldsF,foldsF] at *
  rw [List.map_cons,List.flatMap_cons,List.flatMap_cons,ih,(low_at x).2]
theorem keyN_up (R:List Int):keyN (R.map upR)=keyN R:=by
 have h:(normal (R.map upR)).map lowR=(normal R).map lowR:=by
  rw [normal,normal,←nf_map (fun x=>(low_at x).1),←nf_map (fun x=>(low_at x).1),fulls_up]
 rw [keyN,keyN,←folds_low (normal (R.map upR)),h,folds_low]
def upB (c:UInt8):UInt8:=if 97≤c.toNat∧c.toNat≤122 then c - 32 else c
def upN (r:Nat):Nat:=if 97≤r∧r≤122 then r - 32 else r
theorem up_nat (c:UInt8):(upB c).toNat=upN c.toNat:=by
 by_cases h:97≤c.toNat∧c.toNat≤122
 ·have h1:upB c=c - 32:=if_pos h
  have h2:upN c.toNat=c.toNat - 32:=if_pos h
  rw [h1,h2,UInt8.toNat_sub_of_le]
  ·rfl
  ·rw [UInt8.le_iff_toNat_le];show 32≤c.toNat;omega
 ·have h1:upB c=c:=if_neg h
  have h2:upN c.toNat=c.toNat:=if_neg h
  rw [h1,h2]
theorem up_big {c:UInt8} (h:128≤c.toNat):upB c=c:=by unfold upB;rw [if_neg (by omega)]
theorem up_less {c:UInt8} (h:c.toNat < 128):(upB c).toNat < 128:=by rw [up_nat];unfold upN;split <;> omega
theorem up_need (c:UInt8):need (upB c).toNat=need c.toNat:=by
 by_cases h:c.toNat < 128
 ·have:=up_less h
  unfold need
  rw [if_pos h,if_pos this]
 ·rw [up_big (by omega)]
theorem run_up:∀(l:List UInt8) (k n a b:Nat),128≤a→run k n a b (l.map upB)=run k n a b l
 | [],_,_,_,_,_=>rfl
 | c :: t,k,n,a,b,ha=>by
  rw [List.map_cons,run,run]
  by_cases h:c.toNat < 128
  ·have:=up_less h
   rw [if_neg (by omega),if_neg (by omega)]
  ·rw [up_big (by omega),run_up t (k+1) n 128 191 (Nat.le_refl _)]
theorem wid_up (l:List UInt8):wid (l.map upB)=wid l:=by
 cases l with
 | nil=>rfl
 | cons c t =>
  rw [List.map_cons,wid,wid,up_need]
  by_cases h:c.toNat < 128
  ·have:need c.toNat=1:=by unfold need;rw [if_pos h]
   rw [this,run_zero _ _ _ _ _ (Nat.le_refl _),run_zero _ _ _ _ _ (Nat.le_refl _)]
  ·rw [up_big (by omega),run_up _ _ _ _ _ (lo_ge _)]
theorem nd_up (l:List UInt8):nd (l.map upB)=nd l:=by
 cases l with
 | nil=>rfl
 | cons c t=>exact up_need c
theorem run_all:∀(l:List UInt8) (k n a b:Nat),128≤a→∀x∈l.take (run k n a b l - k),128≤x.toNat
 | [],_,_,_,_,_,x,hx=>by simp at hx
 | c :: t,k,n,a,b,ha,x,hx=>by
  rw [run] at hx
  split at hx
  ·rename_i h
   have hg:=run_ge t (k+1) n 128 191
   rw [show run (k+1) n 128 191 t - k=(run (k+1) n 128 191 t - (k+1))+1 by omega,List.take_succ_cons] at hx
   rcases List.mem_cons.1 hx with rfl | hx
   ·omega
   ·exact run_all t (k+1) n 128 191 (Nat.le_refl _) x hx
  ·simp at hx
theorem take_up {c:UInt8} (t:List UInt8) (h:128≤c.toNat):((c :: t).take (wid (c :: t))).map upB=(c :: t).take (wid (c :: t)):=by
 have h0:1≤wid (c :: t):=wid_pos (by simp)
 have h1:∀x∈(c :: t).take (wid (c :: t)),upB x=x:=fun x hx=>by
  obtain ⟨w,hw⟩:∃w,wid (c :: t)=w+1:=⟨wid (c :: t) - 1,by omega⟩
  rw [hw,List.take_succ_cons] at hx
  rcases List.mem_cons.1 hx with rfl | hx
  ·exact up_big h
  ·have h2:w=run 1 (need c.toNat) (lo c.toNat) (hi c.toNat) t - 1:=by rw [wid] at hw;omega
   rw [h2] at hx
   exact up_big (run_all t 1 _ _ _ (lo_ge _) x hx)
 exact (List.map_congr_left h1).trans (List.map_id _)
theorem rune_up (l:List UInt8) (hl:l≠[]):rune (l.map upB)=upN (rune l):=by
 rw [rune,rune,wid_up,nd_up]
 by_cases hw:wid l=nd l
 ·rw [if_pos hw,if_pos hw,←List.map_take]
  cases l with
  | nil=>exact absurd rfl hl
  | cons c t =>
   by_cases h:c.toNat < 128
   ·have h1:nd (c :: t)=1:=by show need c.toNat=1;unfold need;rw [if_pos h]
    rw [hw,h1]
    show lead (upB c).toNat 1=upN (lead c.toNat 1)
    exact up_nat c
   ·rw [take_up t (by omega)]
    obtain ⟨h1,h2⟩:=wf_piece hl hw
    unfold upN
    rw [if_neg]
    rintro ⟨h3,h4⟩
    have h5:encN (joined ((c :: t).take (wid (c :: t))))=[UInt8.ofNat (joined ((c :: t).take (wid (c :: t))))]:=by
     unfold encN
     rw [if_pos (by omega)]
    have h0:1≤wid (c :: t):=wid_pos (by simp)
    obtain ⟨w,hw2⟩:∃w,wid (c :: t)=w+1:=⟨wid (c :: t) - 1,by omega⟩
    rw [h5] at h2
    generalize joined ((c :: t).take (wid (c :: t)))=r at h2 h3 h4
    rw [hw2,List.take_succ_cons] at h2
    injection h2 with h2 _
    rw [←h2,ofNat_lt (by omega)] at h
    omega
 ·rw [if_neg hw,if_neg hw];rfl
theorem runes_up (l:List UInt8):runesF (l.map upB)=(runesF l).map upR:=by
 have h:∀k,(dec false k (l.map upB)).map Pt.r=(dec false k l).map fun q=>upN q.r:=by
  refine pieces (P:=fun l=>∀k,(dec false k (l.map upB)).map Pt.r=(dec false k l).map fun q=>upN q.r) (fun k=>rfl) (fun l hl ih k=>?_) l
  have hl2:l.map upB≠[]:=by simpa using hl
  rw [dec_cons false k hl,dec_cons false k hl2]
  simp only [Bool.false_and,Bool.false_eq_true,if_false,List.map_cons,rune_up l hl,wid_up,←List.map_drop]
  rw [ih]
 have h2:runesF (l.map upB)=((dec false 0 (l.map upB)).map Pt.r).map fun (r:Nat)=>(r:Int):=by rw [List.map_map];rfl
 rw [h2,h 0,runesF,List.map_map,List.map_map]
 refine List.map_congr_left fun q _=>?_
 simp only [Function.comp,upN,upR]
 split
 ·rw [if_pos (by omega)];omega
 ·rw [if_neg (by omega)]
theorem key_up (l:List UInt8):keyF (l.map upB)=keyF l:=by rw [keyF,runes_up,keyN_up];rfl
theorem keyN_len (R:List Int):(keyN R).length≤18*R.length:=by
 have h1:=fulls_len R
 have h2:=normal_len R
 have h3:=folds_len (normal R)
 have h4:=fulls_len (foldsF (normal R))
 have h5:=normal_len (foldsF (normal R))
 unfold keyN
 omega
theorem key_len (l:List UInt8):(keyF l).length≤72*l.length:=by
 have h1:=enc_le (keyN (runesF l))
 have h2:=keyN_len (runesF l)
 have h3:=runes_len l
 unfold keyF
 omega
theorem text_len (l:List UInt8):(textF l).length≤12*l.length:=by
 have h1:=enc_le (normal (runesF l))
 have h2:=fulls_len (runesF l)
 have h4:=normal_len (runesF l)
 have h3:=runes_len l
 unfold textF
 omega
end Go.Proofs.YtdngaddggcmjgaaDoor.Words
namespace Go.Proofs.YtdngaddggcmjgaaDoor.Words
open Utf hiding infoU8
open Norm Seg
open Ucd hiding same grp
theorem apart_next:∀(p:List (Nat × Nat)) (k:Nat),Apart k p→∀i (h:i+1 < p.length),p[i].2 < p[i+1].1
 | [_],_,_,i,h=>by simp at h
 | (s,e) :: (s',e') :: t,k,ha,0,_=>by
  obtain ⟨_,_,h1⟩:=ha
  have:=h1.1
  show e < s'
  omega
 | (s,e) :: y :: t,k,ha,i+1,h=>apart_next (y :: t) (e+1) ha.2.2 i (by simpa using h)
theorem runs_next {m:List Bool} {i:Nat} (h:i+1 < (runsF m).length):(runsF m)[i].2 < (runsF m)[i+1].1 :=
 apart_next _ 0 (runs_apart m 0 none (by simp) 0 (Nat.le_refl _) (by simp)) i h
theorem join_len (l:List Sx):(joinF l).length=(runsF (marksF (kindsF l))).length:=List.length_map _
theorem join_get {l:List Sx} {i:Nat} (h:i < (joinF l).length):(joinF l)[i]=wdF l ((runsF (marksF (kindsF l)))[i]'(by rw [←join_len];exact h)):=by simp [joinF]
theorem words_next {lim:Nat} {l:List UInt8} {i:Nat} (h:i+1 < (joinF (((okS lim l).map sgOf).map up)).length) :
  (joinF (((okS lim l).map sgOf).map up))[i].g < (joinF (((okS lim l).map sgOf).map up))[i+1].f∧(joinF (((okS lim l).map sgOf).map up))[i].e < (joinF (((okS lim l).map sgOf).map up))[i+1].a:=by
 have h1:(joinF (((okS lim l).map sgOf).map up))[i].g < (joinF (((okS lim l).map sgOf).map up))[i+1].f:=by
  rw [join_get h,join_get (Nat.lt_of_succ_lt h)]
  exact runs_next (by rw [←join_len];exact h)
 refine ⟨h1,?_⟩
 obtain ⟨a1,a2,_,a4,_⟩:=word_at (List.getElem_mem (Nat.lt_of_succ_lt h))
 obtain ⟨b1,b2,b3,_⟩:=word_at (List.getElem_mem h)
 rw [a4,b3]
 generalize (joinF (((okS lim l).map sgOf).map up))[i].g=e at *
 generalize (joinF (((okS lim l).map sgOf).map up))[i+1].f=s at *
 have he:e < (okS lim l).length:=by omega
 have h3:=ww_mono (okS lim l) (i:=e+1) (j:=s) (by omega)
 rw [ww_take _ _ he] at h3
 have h4:=(seg_at he).2.2
 unfold offB
 omega
def mv (d:Int) (x:Sx):Sx:=⟨x.t,x.a+d,x.e+d⟩
def mvW (n:Nat) (d:Int) (x:Wd):Wd:=⟨x.k,x.f+n,x.g+n,x.a+d,x.e+d⟩
theorem kinds_mv (d:Int) (b:List Sx):kindsF (b.map (mv d))=kindsF b:=kinds_texts (by rw [List.map_map];rfl)
theorem wd_left {a:List Sx} (b:List Sx) {p:Nat × Nat} (h1:p.1 < p.2) (h2:p.2≤a.length):wdF (a++b) p=wdF a p:=by
 have e1:catF (a++b) p.1 p.2=catF a p.1 p.2:=by unfold catF;rw [List.take_append_of_le_length h2]
 have e2:atF (a++b) p.1=atF a p.1:=by unfold atF;rw [List.getElem?_append_left (by omega)]
 have e3:endF (a++b) (p.2 - 1)=endF a (p.2 - 1):=by unfold endF;rw [List.getElem?_append_left (by omega)]
 simp only [wdF,e1,e2,e3]
theorem wd_right (a:List Sx) (x:Sx) {b:List Sx} (d:Int) {p:Nat × Nat} (h1:p.1 < p.2) (h2:p.2≤b.length):wdF (a++x :: b.map (mv d)) (shiftP (a.length+1) p)=mvW (a.length+1) d (wdF b p):=by
 have e0:a++x :: b.map (mv d)=(a++[x])++b.map (mv d):=by simp
 have hl:(a++[x]).length=a.length+1:=by simp
 have e1:catF (a++x :: b.map (mv d)) (p.1+(a.length+1)) (p.2+(a.length+1))=catF b p.1 p.2:=by
  rw [e0,←hl]
  have h3:catF (b.map (mv d)) p.1 p.2=catF b p.1 p.2:=cat_texts (by rw [List.map_map];rfl) _ _
  rw [←h3]
  unfold catF
  rw [List.take_append,List.take_of_length_le (by omega),Nat.add_sub_cancel,List.drop_append,List.drop_of_length_le (by omega),List.nil_append,Nat.add_sub_cancel]
 have e2:atF (a++x :: b.map (mv d)) (p.1+(a.length+1))=atF b p.1+d:=by
  have hb:p.1 < b.length:=by omega
  rw [e0,←hl]
  unfold atF
  rw [List.getElem?_append_right (by omega),Nat.add_sub_cancel,List.getElem?_map,List.getElem?_eq_getElem hb]
  rfl
 have e3:endF (a++x :: b.map (mv d)) (p.2+(a.length+1) - 1)=endF b (p.2 - 1)+d:=by
  have hb:p.2 - 1 < b.length:=by omega
  rw [e0,←hl]
  unfold endF
  rw [List.getElem?_append_right (by omega),show p.2+(a++[x]).length - 1 - (a++[x]).length=p.2 - 1 by omega,List.getElem?_map,List.getElem?_eq_getElem hb]
  rfl
 simp only [wdF,shiftP,mvW,e1,e2,e3]
theorem join_beside (a:List Sx) (x:Sx) (b:List Sx) (d:Int) (hx:kindF (txt x)=0):joinF (a++x :: b.map (mv d))=joinF a++(joinF b).map (mvW (a.length+1) d):=by
 have hk:kindsF (a++x :: b.map (mv d))=kindsF a++0 :: kindsF b:=by
  rw [←kinds_mv d b]
  unfold kindsF
  rw [List.map_append,List.map_cons,hx]
 unfold joinF
 have e1:(runsF (marksF (kindsF a))).map (wdF (a++x :: b.map (mv d)))=(runsF (marksF (kindsF a))).map (wdF a):=List.map_congr_left fun p hp=>by
  obtain ⟨h1,h2⟩:=runs_within hp
  rw [marks_kinds_len] at h2
  exact wd_left _ h1 h2
 have e2:(runsF (marksF (kindsF b))).map (fun p=>wdF (a++x :: b.map (mv d)) (shiftP (a.length+1) p))=(runsF (marksF (kindsF b))).map (fun p=>mvW (a.length+1) d (wdF b p)):=List.map_congr_left fun p hp=>by
  obtain ⟨h1,h2⟩:=runs_within hp
  rw [marks_kinds_len] at h2
  exact wd_right a x d h1 h2
 rw [hk,marks_join,runsF_join,List.map_append,List.map_map,List.map_map,marks_kinds_len,e1]
 exact congrArg (_++·) e2
def sftP (k:Nat) (q:Pt):Pt:=⟨q.r,q.p+k,q.w⟩
theorem dec_shift (o:Bool) (l:List UInt8):∀k j,dec o (k+j) l=(dec o k l).map (sftP j):=by
 refine pieces (P:=fun l=>∀k j,dec o (k+j) l=(dec o k l).map (sftP j)) (fun k j=>by simp [dec_nil]) (fun l hl ih k j=>?_) l
 rw [dec_cons o (k+j) hl,dec_cons o k hl]
 split
 ·rfl
 ·rw [List.map_cons,←ih,show k+j+wid l=k+wid l+j by omega]
  rfl
theorem grp_shift (j:Nat) (ps:List Pt):Seg.grp (ps.map (sftP j))=(Seg.grp ps).map (List.map (sftP j)):=cuts_map (sftP j) (fun _=>rfl) ps
theorem says_shift (j:Nat) (g:List Pt):says (g.map (sftP j))=says g:=by
 have:runs (g.map (sftP j))=runs g:=by unfold runs;rw [List.map_map];rfl
 rw [says,says,this]
theorem flen_shift (j:Nat) (g:List Pt):flen (g.map (sftP j))=flen g:=by
 have:runs (g.map (sftP j))=runs g:=by unfold runs;rw [List.map_map];rfl
 rw [flen,flen,this]
theorem sg_shift (j:Nat) {g:List Pt} (hg:g≠[]):up (sgOf (g.map (sftP j)))=mv j (up (sgOf g)):=by
 have h1:beg (g.map (sftP j))=beg g+j:=by
  cases g with
  | nil=>exact absurd rfl hg
  | cons q t=>rfl
 have h2:fin (g.map (sftP j))=fin g+j:=by
  obtain ⟨t,q,rfl⟩:∃t q,g=t++[q]:=⟨g.dropLast,g.getLast hg,(List.dropLast_concat_getLast hg).symm⟩
  rw [List.map_append,List.map_cons,List.map_nil,fin_snoc,fin_snoc]
  show q.p+j+q.w=_
  omega
 simp only [up,sgOf,mv,says_shift,h1,h2]
 simp
def blank (n:Nat):Pt:=⟨32,n,1⟩
theorem blank_opens (n:Nat):opP (blank n)=true:=by show opn 32=true;decide +kernel
theorem dec_beside (l m:List UInt8):dec false 0 (l++[32]++m)=dec false 0 l++[blank l.length]++(dec false 0 m).map (sftP (l.length+1)):=by
 have e:=eat_ascii l 32 (by decide)
 have h1:=dec_append false (l++[32]) m 0
 have h2:=dec_append false (l++[32]) [] 0
 rw [e,List.drop_length,List.nil_append] at h1 h2
 rw [List.append_nil,dec_nil,List.append_nil] at h2
 rw [h1,←h2,dec_ascii 32 (by decide) l,←dec_shift]
 simp [blank]
theorem grp_beside (l m:List UInt8) (hm:∀r t,runesF m=r :: t→opn r=true):Seg.grp (dec false 0 (l++[32]++m))=Seg.grp (dec false 0 l)++[[blank l.length]]++(Seg.grp (dec false 0 m)).map (List.map (sftP (l.length+1))):=by
 rw [dec_beside,←grp_shift]
 have h1:Seg.grp (dec false 0 l++[blank l.length])=Seg.grp (dec false 0 l)++[[blank l.length]]:=by
  have h2:Seg.grp [blank l.length]=[[blank l.length]]:=cuts_one opP _ [] (by simp)
  by_cases hl:dec false 0 l=[]
  ·rw [hl];exact h2
  ·rw [←h2];exact cuts_open opP hl (blank_opens _) []
 rw [←h1]
 cases hd:dec false 0 m with
 | nil=>rw [List.map_nil,List.append_nil];simp [Seg.grp,cuts_nil]
 | cons q t =>
  rw [List.map_cons]
  refine cuts_open opP (by simp) ?_ _
  show opn ((sftP (l.length+1) q).r:Int)=true
  exact hm (q.r:Int) (t.map fun q=>(q.r:Int)) (by rw [runesF,hd];rfl)
theorem ok_of {lim:Nat} {l:List UInt8} (h:badS lim l=false):okS lim l=Seg.grp (dec false 0 l)∧∀g∈Seg.grp (dec false 0 l),flen g≤lim:=by
 have h1:∀g∈Seg.grp (dec false 0 l),flen g≤lim:=fun g hg=>by
  have:=List.any_eq_false.1 h g hg
  simpa using this
 exact ⟨(okG_all flen lim h1).1,h1⟩
theorem bad_of {lim:Nat} {l:List UInt8} (h:∀g∈Seg.grp (dec false 0 l),flen g≤lim):badS lim l=false:=(okG_all flen lim h).2
theorem err_bad {l:List UInt8}:spE 64 l=0↔badS 64 l=false:=by
 unfold spE
 rw [if_pos (by omega)]
 show (if badS 64 l=true then (6:Int) else 0)=0↔_
 cases badS 64 l <;> simp
theorem segs_of (l:List UInt8):spS 64 l=(okS 64 l).map sgOf:=by
 unfold spS
 rw [if_pos (by omega)]
 rfl
theorem words_beside {l m:List UInt8} (hl:spE 64 l=0) (hm:spE 64 m=0) (ho:∀r t,runesF m=r :: t→opn r=true) :
  spE 64 (l++[32]++m)=0∧wordsF 64 (l++[32]++m)=wordsF 64 l++(wordsF 64 m).map (mvW ((okS 64 l).length+1) (l.length+1)):=by
 obtain ⟨o1,a1⟩:=ok_of (err_bad.1 hl)
 obtain ⟨o2,a2⟩:=ok_of (err_bad.1 hm)
 have hg:=grp_beside l m ho
 have hb:badS 64 (l++[32]++m)=false:=bad_of fun g h=>by
  rw [hg] at h
  rcases List.mem_append.1 h with h | h
  ·rcases List.mem_append.1 h with h | h
   ·exact a1 g h
   ·rw [List.mem_singleton.1 h]
    show (fulls [32]).length≤64
    decide +kernel
  ·obtain ⟨y,hy,rfl⟩:=List.mem_map.1 h
   rw [flen_shift]
   exact a2 y hy
 have he:=err_bad.2 hb
 refine ⟨he,?_⟩
 unfold wordsF
 rw [if_pos he,if_pos hl,if_pos hm,segs_of,segs_of,segs_of,(ok_of hb).1,hg,o1,o2,List.map_append,List.map_append,List.map_append,List.map_append]
 have e1:(((Seg.grp (dec false 0 m)).map (List.map (sftP (l.length+1)))).map sgOf).map up=((((Seg.grp (dec false 0 m)).map sgOf).map up).map (mv (l.length+1))):=by
  rw [List.map_map,List.map_map,List.map_map,List.map_map]
  refine List.map_congr_left fun g hg=>?_
  exact sg_shift (l.length+1) (grp_groups hg)
 rw [e1]
 have e2:=join_beside (((Seg.grp (dec false 0 l)).map sgOf).map up) (up (sgOf [blank l.length])) (((Seg.grp (dec false 0 m)).map sgOf).map up) (l.length+1) (by show kindF (saysN [((32:Nat):Int)]).data.toList=0;decide +kernel)
 rw [List.length_map,List.length_map] at e2
 rw [←e2]
 simp
theorem join_le (l:List Sx):(joinF l).length≤l.length:=by
 rw [join_len]
 have h1:=out_len (marksF (kindsF l)) (marksF (kindsF l)).length
 have h2:outF (marksF (kindsF l)) (marksF (kindsF l)).length=runsF (marksF (kindsF l)):=st_end _
 rw [h2,marks_kinds_len] at h1
 exact h1
theorem words_len (lim:Int) (l:List UInt8):(wordsF lim l).length≤l.length:=by
 unfold wordsF
 split
 ·have h1:=join_le ((spS lim l).map up)
  have h2:=split_len lim l
  rw [List.length_map] at h1
  omega
 ·simp
theorem words_of (l:List UInt8):wordsF 64 l=if spE 64 l=0 then joinF (((okS 64 l).map sgOf).map up) else []:=by unfold wordsF;rw [segs_of]
theorem apart_facts (l:List UInt8) (S:List Wd) (hS:S=wordsF 64 l):(∀i (h:i < S.length),S[i].k≠[]∧S[i].f < S[i].g∧S[i].a < S[i].e∧S[i].e≤l.length∧0≤S[i].a) ∧
  ∀i (h:i+1 < S.length),S[i].g < S[i+1].f∧S[i].e < S[i+1].a:=by
 rw [words_of] at hS
 by_cases he:spE 64 l=0
 ·rw [if_pos he] at hS
  subst hS
  refine ⟨fun i h=>?_,fun i h=>words_next h⟩
  obtain ⟨h1,h2,h3,h4,h5,h6,h7,h8⟩:=word_at (List.getElem_mem h)
  refine ⟨h8,h1,?_,?_,?_⟩
  ·rw [h3,h4];omega
  ·rw [h4];omega
  ·rw [h3];omega
 ·rw [if_neg he] at hS
  subst hS
  exact ⟨fun i h=>absurd h (by simp),fun i h=>absurd h (by simp)⟩
theorem raw_facts (l:List UInt8) (S:List Wd) (hS:S=wordsF 64 l):∀i (h:i < S.length),S[i].k=keyF ((l.drop S[i].a.toNat).take (S[i].e.toNat - S[i].a.toNat)):=by
 rw [words_of] at hS
 by_cases he:spE 64 l=0
 ·rw [if_pos he] at hS
  subst hS
  intro i h
  obtain ⟨h1,h2,h3,h4,h5,h6,h7,h8⟩:=word_at (List.getElem_mem h)
  rw [h3,h4]
  simp only [Int.toNat_natCast]
  exact h7
 ·rw [if_neg he] at hS
  subst hS
  exact fun i h=>absurd h (by simp)
end Go.Proofs.YtdngaddggcmjgaaDoor.Words
namespace Go.Proofs.YtdngaddggcmjgaaDoor.Seg
open Go.Shelf Go.RowKit Go.Sort
open Utf hiding infoI32 rd_new own_form rdec_any below_drewN new_any write_any close_any
open Ucd hiding grow same Told
open Norm hiding new_any write_any close_any
set_option maxRecDepth 100000
theorem bytes_cut {w:World} {B n c t u:Nat} {A:Option Addr} {l:List UInt8} (h:Rd w B A (bys l)) (hl:l.length=n) (ht:t < u) (hu:u≤n) (hc:n≤c) :
  ∃A',(∀x:World,(Instr.slice 22 (.slice A n c) (some (.int .i64 t)) (some (.int .i64 u)) none).run Tryd.prog x=.ok (.slice A' (u - t) (c - t)) x)∧Rd w B A' (bys ((l.drop t).take (u - t))):=by
 obtain ⟨b,o,rfl,_⟩:=h.form (by rw [bys_len];omega)
 have he:Tryd.prog.elem 22=5:=by simp [Program.elem,Tryd.underlying22]
 have hadd:(⟨b,o,none⟩:Addr).add (t*1)=⟨b,o+t,none⟩:=by unfold Addr.add;split <;> simp_all
 refine ⟨some ⟨b,o+t,none⟩,fun x=>?_,?_⟩
 ·rw [run_slice_lh x 22 (some ⟨b,o,none⟩) n c (by rw [he];exact Tryd.underlying22) .i64 .i64 (t:Int) (u:Int) (by omega) (by omega) (by omega),he,Tryd.sizeOf5]
  have h0:¬c=t:=by omega
  simp [Result.andThen,sliced,h0]
  simpa using hadd
 ·have h1:=h.drop_ t
  rw [bys_drop] at h1
  have h2:=h1.take_ (u - t)
  rwa [bys_take] at h2
end Go.Proofs.YtdngaddggcmjgaaDoor.Seg
