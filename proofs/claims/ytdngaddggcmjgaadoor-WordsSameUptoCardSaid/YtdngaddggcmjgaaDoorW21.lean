/-
  Texts of stage 7, part 21.
-/
import Derived.Test.YtdngaddggcmjgaaDoorCards
import Derived.Test.YtdngaddggcmjgaaDoorTie
import Derived.Deep.DeepHandedRow
import Derived.Lib.LaidTab
import Derived.MakeChecks
import Derived.Lay
import Derived.Test.YtdngaddggcmjgaaDoorW7
import Derived.Test.YtdngaddggcmjgaaDoorW20
namespace Go.Proofs.YtdngaddggcmjgaaDoor.Norm
open Go.ChangeShapes Go.WideShapes Go.ChangeAt Go.RowKit
open Utf hiding infoI32 rd_new own_form rdec_any below_drewN new_any write_any close_any
open Ucd hiding grow same Told
def Reads (w:World) (n:String) (d:DataW Unit):Prop :=
 ∃g t cs fuel p,Tryd.prog.globalNamed n=some g∧(Tryd.prog.globals[g]?).map (·.type)=some t∧w.var? Tryd.prog n=some cs∧DataW.trod (fun _=>()) Tryd.prog w 0 (fun _=>true) false fuel t cs.toList=some (d,p)
theorem vars_reads {w:World}:∀{l:List (String × DataW Unit)} {ps:List MemPlace},DataW.LaidVars Tryd.prog w l ps→∀n d,(n,d)∈l→Reads w n d
 | [],_,_,_,_,hm=>by cases hm
 | (n',d') :: r,ps,h,n,d,hm=>by
  obtain ⟨g,t,cs,fuel,p,q,h1,h2,h3,h4,h5,_⟩:=h
  rcases List.mem_cons.1 hm with e | e
  ·cases e
   exact ⟨g,t,cs,fuel,p,h1,h2,h3,h4⟩
  ·exact vars_reads h5 n d e
theorem var_heap {P:Program} {w:World} {n:String} {g:Nat} {cs:Array Value} (hg:P.globalNamed n=some g) (h:w.var? P n=some cs):∃t fr,w.heap[g]? = some (.cells cs t fr):=by
 simp only [World.var?,hg,Option.bind_some] at h
 split at h
 ·rename_i c t fr he
  cases h
  exact ⟨t,fr,he⟩
 ·cases h
theorem chunks {α:Type} (flat:α→List Value) (sz:Nat):∀(xs:List α) (cs:List Value),cs.length=xs.length*sz→(∀(i:Nat) (h:i < xs.length),(cs.drop (i*sz)).take sz=flat xs[i])→cs=xs.flatMap flat
 | [],cs,hl,_=>by simpa using hl
 | x :: t,cs,hl,h=>by
  have h0:=h 0 (by simp)
  rw [Nat.zero_mul,List.drop_zero] at h0
  have hr:=chunks flat sz t (cs.drop sz) (by rw [List.length_drop,hl,List.length_cons,Nat.succ_mul];omega) (fun i hi=>by
   have:=h (i+1) (by simpa using hi)
   rw [List.drop_drop,show sz+i*sz=(i+1)*sz from by rw [Nat.succ_mul];omega]
   simpa using this)
  rw [List.flatMap_cons]
  have e:flat x=flat (x :: t)[0]:=rfl
  rw [e,←h0,←hr,List.take_append_drop]
theorem cells_of_rows {α:Type} {w:World} {fuel:Nat} {t e:TypeId} {n sz:Nat} {cs:List Value} {p:List MemPlace} (enc:α→DataW Unit) (flat:α→List Value) (xs:List α)
  (ht:Tryd.prog.underlying t=some (.array n e)) (hce:Tryd.prog.cellsOf e=sz) (hct:Tryd.prog.cellsOf t=n*sz)
  (inner:∀(fuel:Nat) (c:List Value) (x:α) (p:List MemPlace),DataW.trod (fun _=>()) Tryd.prog w 0 (fun _=>true) false fuel e c=some (enc x,p)→c=flat x)
  (h:DataW.trod (fun _=>()) Tryd.prog w 0 (fun _=>true) false fuel t cs=some (.agg (xs.map enc),p)):cs=xs.flatMap flat:=by
 cases fuel with
 | zero=>simp [DataW.trod] at h
 | succ fuel =>
  simp only [DataW.trod,ht,hce,hct] at h
  split at h
  ·rename_i hl
   obtain ⟨ys,hm,hx⟩:=Option.map_eq_some_iff.1 h
   have hxs:ys.map (·.1)=xs.map enc:=by
    have:=congrArg Prod.fst hx
    simpa using this
   have hyl:ys.length=n:=by simpa using Lib.mapM_length hm
   have hxl:xs.length=n:=by
    have:=congrArg List.length hxs
    simp at this
    omega
   refine chunks flat sz xs cs (by rw [hl,hxl]) fun i hi=>?_
   obtain ⟨b,hb,hf⟩:=Lib.mapM_at hm i i (List.getElem?_range (by omega))
   have h2:(ys.map (·.1))[i]? = some b.1:=by simp [hb]
   rw [hxs,List.getElem?_map,List.getElem?_eq_getElem hi,Option.map_some,Option.some.injEq] at h2
   obtain ⟨bd,bp⟩:=b
   exact inner fuel _ _ bp (by rw [hf];exact congrArg some (Prod.ext h2.symm rfl))
  ·cases h
def d3 (x:Int × Int × Int):DataW Unit:=.agg [.lit (.int .i32 x.1),.lit (.int .i32 x.2.1),.lit (.int .i32 x.2.2)]
def d4 (x:Int × Int × Int × Int):DataW Unit:=.agg [.lit (.int .i32 x.1),.lit (.int .i32 x.2.1),.lit (.int .i32 x.2.2.1),.lit (.int .i32 x.2.2.2)]
theorem cells32:Tryd.prog.cellsOf 21=1:=by kernel_rfl
theorem cellsStretch:Tryd.prog.cellsOf 120=3:=by kernel_rfl
theorem cellsPair:Tryd.prog.cellsOf 133=3:=by kernel_rfl
theorem cellsShift:Tryd.prog.cellsOf 100=4:=by kernel_rfl
theorem take_one {cs:List Value} {k:Nat} {v:Value} (h:(cs.drop k).take 1=[v]):cs[k]? = some v:=by
 have:=congrArg (·[0]?) h
 simpa [List.getElem?_take,List.getElem?_drop] using this
theorem three_of {cs:List Value} {a b c:Value} (hl:cs.length=3) (h0:cs[0]? = some a) (h1:cs[1]? = some b) (h2:cs[2]? = some c):cs=[a,b,c]:=by
 match cs,hl with
 | [x,y,z],_=>simp at h0 h1 h2;rw [h0,h1,h2]
theorem four_of {cs:List Value} {a b c d:Value} (hl:cs.length=4) (h0:cs[0]? = some a) (h1:cs[1]? = some b) (h2:cs[2]? = some c) (h3:cs[3]? = some d):cs=[a,b,c,d]:=by
 match cs,hl with
 | [x,y,z,u],_=>simp at h0 h1 h2 h3;rw [h0,h1,h2,h3]
theorem int_cell {w:World} {fuel:Nat} {c:List Value} {n:Int} {p:List MemPlace} (h:DataW.trod (fun _=>()) Tryd.prog w 0 (fun _=>true) false fuel 21 c=some (.lit (.int .i32 n),p)):c=[.int .i32 n]:=by
 obtain ⟨m,hc,hx,_⟩:=DataW.trod_int Tryd.underlying21 h
 cases hx
 exact hc
theorem part_at {α β:Type} {f:α→Option (DataW Unit × β)} {l:List α} {ys:List (DataW Unit × β)} {ds:List (DataW Unit)} (hm:l.mapM f=some ys) (hx:ys.map (·.1)=ds) (i:Nat) (a:α) (d:DataW Unit) (ha:l[i]? = some a) (hd:ds[i]? = some d):∃q,f a=some (d,q):=by
 obtain ⟨b,hb,hf⟩:=Lib.mapM_at hm i a ha
 have h2:(ys.map (·.1))[i]? = some b.1:=by simp [hb]
 rw [hx,hd,Option.some.injEq] at h2
 exact ⟨b.2,by rw [hf,h2]⟩
theorem inner_stretch (w:World) (fuel:Nat) (c:List Value) (x:Int × Int × Int) (p:List MemPlace) (h:DataW.trod (fun _=>()) Tryd.prog w 0 (fun _=>true) false fuel 120 c=some (d3 x,p)):c=[.int .i32 x.1,.int .i32 x.2.1,.int .i32 x.2.2]:=by
 cases fuel with
 | zero=>simp [DataW.trod] at h
 | succ fuel =>
  simp only [DataW.trod,Tryd.underlying120,cellsStretch] at h
  split at h
  ·rename_i hl
   obtain ⟨ys,hm,hx⟩:=Option.map_eq_some_iff.1 h
   have hxs:ys.map (·.1)=[.lit (.int .i32 x.1),.lit (.int .i32 x.2.1),.lit (.int .i32 x.2.2)]:=by
    have:=congrArg Prod.fst hx
    simpa [d3] using this
   obtain ⟨q0,f0⟩:=part_at hm hxs 0 _ _ rfl rfl
   obtain ⟨q1,f1⟩:=part_at hm hxs 1 _ _ rfl rfl
   obtain ⟨q2,f2⟩:=part_at hm hxs 2 _ _ rfl rfl
   rw [cells32] at f0 f1 f2
   exact three_of hl (take_one (int_cell f0)) (take_one (int_cell f1)) (take_one (int_cell f2))
  ·cases h
theorem inner_pair (w:World) (fuel:Nat) (c:List Value) (x:Int × Int × Int) (p:List MemPlace) (h:DataW.trod (fun _=>()) Tryd.prog w 0 (fun _=>true) false fuel 133 c=some (d3 x,p)):c=[.int .i32 x.1,.int .i32 x.2.1,.int .i32 x.2.2]:=by
 cases fuel with
 | zero=>simp [DataW.trod] at h
 | succ fuel =>
  simp only [DataW.trod,Tryd.underlying133,cellsPair] at h
  split at h
  ·rename_i hl
   obtain ⟨ys,hm,hx⟩:=Option.map_eq_some_iff.1 h
   have hxs:ys.map (·.1)=[.lit (.int .i32 x.1),.lit (.int .i32 x.2.1),.lit (.int .i32 x.2.2)]:=by
    have:=congrArg Prod.fst hx
    simpa [d3] using this
   obtain ⟨q0,f0⟩:=part_at hm hxs 0 _ _ rfl rfl
   obtain ⟨q1,f1⟩:=part_at hm hxs 1 _ _ rfl rfl
   obtain ⟨q2,f2⟩:=part_at hm hxs 2 _ _ rfl rfl
   rw [cells32] at f0 f1 f2
   exact three_of hl (take_one (int_cell f0)) (take_one (int_cell f1)) (take_one (int_cell f2))
  ·cases h
theorem inner_shift (w:World) (fuel:Nat) (c:List Value) (x:Int × Int × Int × Int) (p:List MemPlace) (h:DataW.trod (fun _=>()) Tryd.prog w 0 (fun _=>true) false fuel 100 c=some (d4 x,p)):c=[.int .i32 x.1,.int .i32 x.2.1,.int .i32 x.2.2.1,.int .i32 x.2.2.2]:=by
 cases fuel with
 | zero=>simp [DataW.trod] at h
 | succ fuel =>
  simp only [DataW.trod,Tryd.underlying100,cellsShift] at h
  split at h
  ·rename_i hl
   obtain ⟨ys,hm,hx⟩:=Option.map_eq_some_iff.1 h
   have hxs:ys.map (·.1)=[.lit (.int .i32 x.1),.lit (.int .i32 x.2.1),.lit (.int .i32 x.2.2.1),.lit (.int .i32 x.2.2.2)]:=by
    have:=congrArg Prod.fst hx
    simpa [d4] using this
   obtain ⟨q0,f0⟩:=part_at hm hxs 0 _ _ rfl rfl
   obtain ⟨q1,f1⟩:=part_at hm hxs 1 _ _ rfl rfl
   obtain ⟨q2,f2⟩:=part_at hm hxs 2 _ _ rfl rfl
   obtain ⟨q3,f3⟩:=part_at hm hxs 3 _ _ rfl rfl
   rw [cells32] at f0 f1 f2 f3
   exact four_of hl (take_one (int_cell f0)) (take_one (int_cell f1)) (take_one (int_cell f2)) (take_one (int_cell f3))
  ·cases h
theorem tbl_of {w:World} {n:String} {d:DataW Unit} {g:Nat} {t:TypeId} {cs:List Value} (hg:Tryd.prog.globalNamed n=some g) (hty:(Tryd.prog.globals[g]?).map (·.type)=some t) (h:Reads w n d)
  (hc:∀(fuel:Nat) (c:List Value) (p:List MemPlace),DataW.trod (fun _=>()) Tryd.prog w 0 (fun _=>true) false fuel t c=some (d,p)→c=cs):Tbl w g cs:=by
 obtain ⟨g',t',c,fuel,p,h1,h2,h3,h4⟩:=h
 obtain rfl:=Option.some.inj (hg.symm.trans h1)
 obtain rfl:=Option.some.inj (hty.symm.trans h2)
 obtain ⟨ty,fr,hh⟩:=var_heap hg h3
 exact ⟨ty,fr,by rw [hh,←hc _ _ _ h4]⟩
theorem inner_mark (w:World) (fuel:Nat) (c:List Value) (x:Int) (p:List MemPlace) (h:DataW.trod (fun _=>()) Tryd.prog w 0 (fun _=>true) false fuel 21 c=some (.lit (.int .i32 x),p)):c=[.int .i32 x]:=int_cell h
theorem flat_nums (l:List Int):(l.flatMap fun x=>[Value.int .i32 x])=nums l:=by
 induction l with
 | nil=>rfl
 | cons x t ih=>rw [List.flatMap_cons,ih];rfl
theorem laid_of {W:World} (h:laidMetH Tryd.prog Rows.wordsKeysUptoRow.laid W):Laid W:=by
 rw [MakeChecks.laidMetH_plain _ _ _ (by rfl)] at h
 obtain ⟨ps,hv,_⟩:=h
 have r:=vars_reads hv
 refine ⟨tbl_of (t:=121) (by kernel_rfl) (by kernel_rfl) (r _ Rows.laid_trema_ucd_classes (.tail _ (.tail _ (.head _)))) fun fuel c p hd=>?_,tbl_of (t:=138) (by kernel_rfl) (by kernel_rfl) (r _ Rows.laid_trema_ucd_lowRows (.head _)) fun fuel c p hd=>?_,tbl_of (t:=139) (by kernel_rfl) (by kernel_rfl) (r _ Rows.laid_trema_ucd_highRows (.tail _ (.head _))) fun fuel c p hd=>?_,
  tbl_of (t:=134) (by kernel_rfl) (by kernel_rfl) (r _ Rows.laid_trema_ucd_listed (.tail _ (.tail _ (.tail _ (.tail _ (.tail _ (.head _))))))) fun fuel c p hd=>?_,tbl_of (t:=143) (by kernel_rfl) (by kernel_rfl) (r _ Rows.laid_trema_ucd_marks (.tail _ (.tail _ (.tail _ (.tail _ (.head _)))))) fun fuel c p hd=>?_,tbl_of (t:=101) (by kernel_rfl) (by kernel_rfl) (r _ Rows.laid_trema_ucd_shifts (.tail _ (.tail _ (.tail _ (.head _))))) fun fuel c p hd=>?_⟩
 ·exact cells_of_rows d3 (fun x=>[.int .i32 x.1,.int .i32 x.2.1,.int .i32 x.2.2]) clsRows Tryd.underlying121 cellsStretch (by kernel_rfl) (inner_stretch W) hd
 ·exact cells_of_rows d3 (fun x=>[.int .i32 x.1,.int .i32 x.2.1,.int .i32 x.2.2]) lowRows Tryd.underlying138 cellsStretch (by kernel_rfl) (inner_stretch W) hd
 ·exact cells_of_rows d3 (fun x=>[.int .i32 x.1,.int .i32 x.2.1,.int .i32 x.2.2]) highRows Tryd.underlying139 cellsStretch (by kernel_rfl) (inner_stretch W) hd
 ·exact cells_of_rows d3 (fun x=>[.int .i32 x.1,.int .i32 x.2.1,.int .i32 x.2.2]) listRows Tryd.underlying134 cellsPair (by kernel_rfl) (inner_pair W) hd
 ·rw [←flat_nums]
  exact cells_of_rows (fun x=>.lit (.int .i32 x)) (fun x=>[.int .i32 x]) markList Tryd.underlying143 cells32 (by kernel_rfl) (inner_mark W) hd
 ·exact cells_of_rows d4 (fun x=>[.int .i32 x.1,.int .i32 x.2.1,.int .i32 x.2.2.1,.int .i32 x.2.2.2]) shRows Tryd.underlying101 cellsShift (by kernel_rfl) (inner_shift W) hd
noncomputable def laidWorld (os:Os):World:=World.laidAll Tryd.prog os Rows.wordsKeysUptoRow.laid
end Go.Proofs.YtdngaddggcmjgaaDoor.Norm
