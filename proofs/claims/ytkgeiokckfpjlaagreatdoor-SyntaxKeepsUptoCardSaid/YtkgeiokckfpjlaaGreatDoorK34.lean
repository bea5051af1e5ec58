/-
  Texts of stage 7, part 34.
-/
import Derived.Test.YtkgeiokckfpjlaaGreatDoorK1
import Derived.Test.YtkgeiokckfpjlaaGreatDoorK8
import Derived.Test.YtkgeiokckfpjlaaGreatDoorK9
import Derived.Test.YtkgeiokckfpjlaaGreatDoorK23
import Derived.Test.YtkgeiokckfpjlaaGreatDoorK25
import Derived.Test.YtkgeiokckfpjlaaGreatDoorK29
namespace Go.Proofs.YtkgeiokckfpjlaaGreatDoor.Syn
open Go.RowKit
open Sset (Tx)
open Rset (Rg Nm compl gp_compl gp_len norm_id nl_nm)
open Ucd (nmF nmGo rangesF)
open Norm (textF)
open Utf (vld enc)
set_option maxRecDepth 100000
def okR (r:Rg):Bool:=decide (0≤r.1) && decide (r.1≤r.2) && decide (r.2≤1114111)
def nmB:List Rg→Bool
 | []=>true
 | [r]=>okR r
 | r :: s :: t=>okR r && decide (r.2+2≤s.1) && nmB (s :: t)
theorem okR_iff {r:Rg} (h:okR r=true):0≤r.1∧r.1≤r.2∧r.2≤1114111:=by
 unfold okR at h
 simp only [Bool.and_eq_true,decide_eq_true_eq] at h
 exact ⟨h.1.1,h.1.2,h.2⟩
theorem nmB_nm:∀l:List Rg,nmB l=true→Nm l
 | [],_=>Nm.nil
 | [r],h=>Nm.cons (okR_iff h) (by simp) Nm.nil
 | r :: s :: t,h=>by
  unfold nmB at h
  simp only [Bool.and_eq_true,decide_eq_true_eq] at h
  have ih:=nmB_nm (s :: t) h.2
  refine Nm.cons (okR_iff h.1.1) (fun x hx=>?_) ih
  rcases List.mem_cons.1 hx with rfl | hx
  ·exact h.1.2
  ·have:=ih.next x hx;have:=ih.hd;omega
noncomputable def theE:Env where
 cat b t:=if (nmF t).2 then some (if b then compl (rangesF (nmF t).1) else rangesF (nmF t).1) else none
 chr n:=if vld (n:Int) then some (textF (enc [(n:Int)])) else none
theorem nm_seven (t:Tx) (h:(nmF t).2=true):(nmF t).1∈([1,2,3,4,5,6,7]:List Int):=by
 unfold nmF nmGo at *
 simp only [nmGo] at *
 repeat' split at h
 all_goals simp_all
theorem ranges_nm:(([1,2,3,4,5,6,7]:List Int).all fun c=>nmB (rangesF c) && decide ((rangesF c).length≤90))=true:=by decide +kernel
theorem ranges_ok (t:Tx) (h:(nmF t).2=true):Nm (rangesF (nmF t).1)∧(rangesF (nmF t).1).length≤90:=by
 have:=List.all_eq_true.1 ranges_nm _ (nm_seven t h)
 simp only [Bool.and_eq_true,decide_eq_true_eq] at this
 exact ⟨nmB_nm _ this.1,this.2⟩
theorem chr_len (n:Int):(textF (enc [n])).length≤1000:=by
 have h1:=Utf.enc_le [n]
 have h2:=Norm.runes_len (enc [n])
 have h3:=Norm.nf_len (Norm.fulls (Norm.runesF (enc [n])))
 have h4:=Norm.fulls_len (Norm.runesF (enc [n]))
 have h5:=Utf.enc_le (Norm.normal (Norm.runesF (enc [n])))
 have h6:(Norm.normal (Norm.runesF (enc [n]))).length=(Norm.fulls (Norm.runesF (enc [n]))).length:=h3
 unfold textF
 simp at h1
 omega
theorem goodE:GoodEnv theE where
 cat b c x h:=by
  unfold theE at h
  dsimp only at h
  split at h
  ·rename_i hc
   obtain ⟨h1,h2⟩:=ranges_ok c hc
   injection h with h
   subst h
   split
   ·refine ⟨?_,nl_nm _⟩
    have:=gp_len (rangesF (nmF c).1) 0
    rw [←gp_compl,norm_id h1];omega
   ·exact ⟨by omega,h1⟩
  ·cases h
 chr n x h:=by
  unfold theE at h
  dsimp only at h
  split at h
  ·injection h with h
   rw [←h];have:=chr_len n;omega
  ·cases h
theorem cR_rgs (l:List (Int × Int)):Ucd.cR l=Rset.rgs l:=rfl
end Go.Proofs.YtkgeiokckfpjlaaGreatDoor.Syn
namespace Go.Proofs.YtkgeiokckfpjlaaGreatDoor.Syn
open Utf Norm Seg
open Ucd hiding same
set_option maxRecDepth 100000
def tx (l:List UInt8):List (List UInt8):=(texts l).map fun t=>t.data.toList
theorem tx_cuts (l:List UInt8):tx l=(cuts opn (runesF l)).map fun g=>enc (normal g):=by
 rw [tx,texts_cuts,List.map_map];rfl
theorem tx_normal (l:List UInt8):tx l=(cuts opn (normal (runesF l))).map enc:=by
 rw [tx,texts_of_normal,List.map_map];rfl
def quoteB (L:List (List UInt8)):List UInt8:=(quoted L).flatten
def rlen (t:List UInt8):Nat:=(runesF t).length
theorem says_len (g:List Pt):rlen (says g).data.toList=flen g:=by
 show (runesF (enc (normal (runs g)))).length=_
 rw [runes_enc_len,normal_len];rfl
theorem tx_grp (l:List UInt8):tx l=(grp (dec false 0 l)).map fun g=>(says g).data.toList:=by
 unfold tx texts;rw [List.map_map];rfl
theorem bad_tx (lim:Nat) (l:List UInt8):badG flen lim (grp (dec false 0 l))=(tx l).any fun t=>decide (lim < rlen t):=by
 rw [tx_grp,List.any_map]
 unfold badG
 congr 1
 funext g
 show _=decide (lim < rlen (says g).data.toList)
 rw [says_len]
theorem ok_tx (lim:Nat) (l:List UInt8):(okG flen lim (grp (dec false 0 l))).map (fun g=>(says g).data.toList)=(tx l).takeWhile fun t=>decide (rlen t≤lim):=by
 rw [tx_grp,List.takeWhile_map]
 unfold okG
 congr 2
 funext g
 show _=decide (rlen (says g).data.toList≤lim)
 rw [says_len]
noncomputable def parseT (E:Env) (L:List (List UInt8)):Except (Nat × Nat) (List Nd) :=
 if (L.any fun t=>decide (64 < rlen t))=true then .error ((L.takeWhile fun t=>decide (rlen t≤64)).length,6)
 else if 4096 < L.length then .error (0,3) else pattern E L
noncomputable def parseF (E:Env) (b:List UInt8):Except (Nat × Nat) (List Nd):=parseT E (tx b)
theorem groups_le {α:Type}:∀gs:List (List α),(∀g∈gs,g≠[])→gs.length≤gs.flatten.length
 | [],_=>Nat.le_refl _
 | g :: gs,h=>by
  have:=groups_le gs fun x hx=>h x (by simp [hx])
  have hg:0 < g.length:=List.length_pos_iff.2 (h g (by simp))
  rw [List.flatten_cons,List.length_append,List.length_cons];omega
theorem tx_len (b:List UInt8):(tx b).length≤b.length:=by
 rw [tx_cuts,List.length_map]
 have h:=groups_le (cuts opn (runesF b)) fun g hg=>by obtain ⟨q,t,rfl⟩:=cuts_group opn hg;simp
 rw [cuts_flat] at h
 have h2:=dec_len_le false b 0
 have:(runesF b).length=(dec false 0 b).length:=by unfold runesF;rw [List.length_map]
 omega
theorem parse_ok {E:Env} {L:List (List UInt8)} {l:List Nd} (h:parseT E L=.ok l):(L.any fun t=>decide (64 < rlen t))=false∧L.length≤4096∧pattern E L=.ok l:=by
 unfold parseT at h
 split at h
 ·cases h
 ·split at h
  ·cases h
  ·rename_i h1 h2
   exact ⟨by simpa using h1,by omega,h⟩
end Go.Proofs.YtkgeiokckfpjlaaGreatDoor.Syn
