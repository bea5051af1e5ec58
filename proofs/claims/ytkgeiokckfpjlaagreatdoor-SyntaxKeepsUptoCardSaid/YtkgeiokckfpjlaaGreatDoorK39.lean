/-
  Texts of stage 7, part 39.
-/
import Derived.Test.YtkgeiokckfpjlaaGreatDoorCards
import Derived.Test.YtkgeiokckfpjlaaGreatDoorTie
import Derived.Test.YtkgeiokckfpjlaaGreatDoorRows
import Derived.Deep.SlicePairs
import Derived.ProofKit
import Derived.OpenShut
import Derived.JoinedCond
import Derived.ChangeOld
import Derived.Below
import Derived.SizedLaws
import Derived.Deep.Strs
import Derived.Lib.SmallJoins
import Derived.Deep.DeepHandedRow
import Derived.Lib.LaidTab
import Derived.Lay
import Derived.MakeChecks
import Derived.Test.YtkgeiokckfpjlaaGreatDoorK7
import Derived.Test.YtkgeiokckfpjlaaGreatDoorK8
import Derived.Test.YtkgeiokckfpjlaaGreatDoorK17
import Derived.Test.YtkgeiokckfpjlaaGreatDoorK38
namespace Go.Proofs.YtkgeiokckfpjlaaGreatDoor.Syn
open Go.ChangeShapes Go.WideShapes Go.ChangeAt Go.RowKit Go.Deep
open Utf (Rd Blk bys open_bytes bulk_len laidOut own bulk_bound)
open Ucd (Tbl Laid c3 clsRows lowRows highRows listRows markList)
open Utf (nums)
open Sset (St Tx Has3 ArgT ArgR)
set_option maxRecDepth 100000
def Reads (w:World) (n:String) (d:DataW Unit):Prop :=
 ∃g t cs fuel p,Tryz.prog.globalNamed n=some g∧(Tryz.prog.globals[g]?).map (·.type)=some t∧w.var? Tryz.prog n=some cs∧DataW.trod (fun _=>()) Tryz.prog w 0 (fun _=>true) false fuel t cs.toList=some (d,p)
theorem vars_reads {w:World}:∀{l:List (String × DataW Unit)} {ps:List MemPlace},DataW.LaidVars Tryz.prog w l ps→∀n d,(n,d)∈l→Reads w n d
 | [],_,_,_,_,hm=>by cases hm
 | (n',d') :: r,ps,h,n,d,hm=>by
  obtain ⟨g,t,cs,fuel,p,q,h1,h2,h3,h4,h5,_⟩:=h
  rcases List.mem_cons.1 hm with e | e
  ·cases e
   exact ⟨g,t,cs,fuel,p,h1,h2,h3,h4⟩
  ·exact vars_reads h5 n d e
theorem var_heap {P:Program} {w:World} {n:String} {g:Nat} {cs:Array Value} (hg:P.globalNamed n=some g) (h:w.var? P n=some cs):∃t fr,w.heap[g]? = some (.cells cs t fr):=by
 simp only [World.var?,hg,Option.bind_some] at h
 split at h
 ·rename_i c t fr he
  cases h
  exact ⟨t,fr,he⟩
 ·cases h
theorem chunks {α:Type} (flat:α→List Value) (sz:Nat):∀(xs:List α) (cs:List Value),cs.length=xs.length*sz→(∀(i:Nat) (h:i < xs.length),(cs.drop (i*sz)).take sz=flat xs[i])→cs=xs.flatMap flat
 | [],cs,hl,_=>by simpa using hl
 | x :: t,cs,hl,h=>by
  have h0:=h 0 (by simp)
  rw [Nat.zero_mul,List.drop_zero] at h0
  have hr:=chunks flat sz t (cs.drop sz) (by rw [List.length_drop,hl,List.length_cons,Nat.succ_mul];omega) (fun i hi=>by
   have:=h (i+1) (by simpa using hi)
   rw [List.drop_drop,show sz+i*sz=(i+1)*sz from by rw [Nat.succ_mul];omega]
   simpa using this)
  rw [List.flatMap_cons]
  have e:flat x=flat (x :: t)[0]:=rfl
  rw [e,←h0,←hr,List.take_append_drop]
theorem cells_of_rows {α:Type} {w:World} {fuel:Nat} {t e:TypeId} {n sz:Nat} {cs:List Value} {p:List MemPlace} (enc:α→DataW Unit) (flat:α→List Value) (xs:List α)
  (ht:Tryz.prog.underlying t=some (.array n e)) (hce:Tryz.prog.cellsOf e=sz) (hct:Tryz.prog.cellsOf t=n*sz)
  (inner:∀(fuel:Nat) (c:List Value) (x:α) (p:List MemPlace),DataW.trod (fun _=>()) Tryz.prog w 0 (fun _=>true) false fuel e c=some (enc x,p)→c=flat x)
  (h:DataW.trod (fun _=>()) Tryz.prog w 0 (fun _=>true) false fuel t cs=some (.agg (xs.map enc),p)):cs=xs.flatMap flat:=by
 cases fuel with
 | zero=>simp [DataW.trod] at h
 | succ fuel =>
  simp only [DataW.trod,ht,hce,hct] at h
  split at h
  ·rename_i hl
   obtain ⟨ys,hm,hx⟩:=Option.map_eq_some_iff.1 h
   have hxs:ys.map (·.1)=xs.map enc:=by
    have:=congrArg Prod.fst hx
    simpa using this
   have hyl:ys.length=n:=by simpa using Lib.mapM_length hm
   have hxl:xs.length=n:=by
    have:=congrArg List.length hxs
    simp at this
    omega
   refine chunks flat sz xs cs (by rw [hl,hxl]) fun i hi=>?_
   obtain ⟨b,hb,hf⟩:=Lib.mapM_at hm i i (List.getElem?_range (by omega))
   have h2:(ys.map (·.1))[i]? = some b.1:=by simp [hb]
   rw [hxs,List.getElem?_map,List.getElem?_eq_getElem hi,Option.map_some,Option.some.injEq] at h2
   obtain ⟨bd,bp⟩:=b
   exact inner fuel _ _ bp (by rw [hf];exact congrArg some (Prod.ext h2.symm rfl))
  ·cases h
def d3 (x:Int × Int × Int):DataW Unit:=.agg [.lit (.int .i32 x.1),.lit (.int .i32 x.2.1),.lit (.int .i32 x.2.2)]
theorem cells32:Tryz.prog.cellsOf 21=1:=by kernel_rfl
theorem cellsStretch:Tryz.prog.cellsOf 251=3:=by kernel_rfl
theorem cellsPair:Tryz.prog.cellsOf 248=3:=by kernel_rfl
theorem first_of {cs:List Value} {k:Nat} {v:Value} (h:(cs.drop k).take 1=[v]):cs[k]? = some v:=by
 have:=congrArg (·[0]?) h
 simpa [List.getElem?_take,List.getElem?_drop] using this
theorem three_of {cs:List Value} {a b c:Value} (hl:cs.length=3) (h0:cs[0]? = some a) (h1:cs[1]? = some b) (h2:cs[2]? = some c):cs=[a,b,c]:=by
 match cs,hl with
 | [x,y,z],_=>simp at h0 h1 h2;rw [h0,h1,h2]
theorem int_cell {w:World} {fuel:Nat} {c:List Value} {n:Int} {p:List MemPlace} (h:DataW.trod (fun _=>()) Tryz.prog w 0 (fun _=>true) false fuel 21 c=some (.lit (.int .i32 n),p)):c=[.int .i32 n]:=by
 obtain ⟨m,hc,hx,_⟩:=DataW.trod_int Tryz.underlying21 h
 cases hx
 exact hc
theorem part_at {α β:Type} {f:α→Option (DataW Unit × β)} {l:List α} {ys:List (DataW Unit × β)} {ds:List (DataW Unit)} (hm:l.mapM f=some ys) (hx:ys.map (·.1)=ds) (i:Nat) (a:α) (d:DataW Unit) (ha:l[i]? = some a) (hd:ds[i]? = some d):∃q,f a=some (d,q):=by
 obtain ⟨b,hb,hf⟩:=Lib.mapM_at hm i a ha
 have h2:(ys.map (·.1))[i]? = some b.1:=by simp [hb]
 rw [hx,hd,Option.some.injEq] at h2
 exact ⟨b.2,by rw [hf,h2]⟩
theorem inner_stretch (w:World) (fuel:Nat) (c:List Value) (x:Int × Int × Int) (p:List MemPlace) (h:DataW.trod (fun _=>()) Tryz.prog w 0 (fun _=>true) false fuel 251 c=some (d3 x,p)):c=[.int .i32 x.1,.int .i32 x.2.1,.int .i32 x.2.2]:=by
 cases fuel with
 | zero=>simp [DataW.trod] at h
 | succ fuel =>
  simp only [DataW.trod,Tryz.underlying251,cellsStretch] at h
  split at h
  ·rename_i hl
   obtain ⟨ys,hm,hx⟩:=Option.map_eq_some_iff.1 h
   have hxs:ys.map (·.1)=[.lit (.int .i32 x.1),.lit (.int .i32 x.2.1),.lit (.int .i32 x.2.2)]:=by
    have:=congrArg Prod.fst hx
    simpa [d3] using this
   obtain ⟨q0,f0⟩:=part_at hm hxs 0 _ _ rfl rfl
   obtain ⟨q1,f1⟩:=part_at hm hxs 1 _ _ rfl rfl
   obtain ⟨q2,f2⟩:=part_at hm hxs 2 _ _ rfl rfl
   rw [cells32] at f0 f1 f2
   exact three_of hl (first_of (int_cell f0)) (first_of (int_cell f1)) (first_of (int_cell f2))
  ·cases h
theorem inner_pair (w:World) (fuel:Nat) (c:List Value) (x:Int × Int × Int) (p:List MemPlace) (h:DataW.trod (fun _=>()) Tryz.prog w 0 (fun _=>true) false fuel 248 c=some (d3 x,p)):c=[.int .i32 x.1,.int .i32 x.2.1,.int .i32 x.2.2]:=by
 cases fuel with
 | zero=>simp [DataW.trod] at h
 | succ fuel =>
  simp only [DataW.trod,Tryz.underlying248,cellsPair] at h
  split at h
  ·rename_i hl
   obtain ⟨ys,hm,hx⟩:=Option.map_eq_some_iff.1 h
   have hxs:ys.map (·.1)=[.lit (.int .i32 x.1),.lit (.int .i32 x.2.1),.lit (.int .i32 x.2.2)]:=by
    have:=congrArg Prod.fst hx
    simpa [d3] using this
   obtain ⟨q0,f0⟩:=part_at hm hxs 0 _ _ rfl rfl
   obtain ⟨q1,f1⟩:=part_at hm hxs 1 _ _ rfl rfl
   obtain ⟨q2,f2⟩:=part_at hm hxs 2 _ _ rfl rfl
   rw [cells32] at f0 f1 f2
   exact three_of hl (first_of (int_cell f0)) (first_of (int_cell f1)) (first_of (int_cell f2))
  ·cases h
theorem tbl_of {w:World} {n:String} {d:DataW Unit} {g:Nat} {t:TypeId} {cs:List Value} (hg:Tryz.prog.globalNamed n=some g) (hty:(Tryz.prog.globals[g]?).map (·.type)=some t) (h:Reads w n d)
  (hc:∀(fuel:Nat) (c:List Value) (p:List MemPlace),DataW.trod (fun _=>()) Tryz.prog w 0 (fun _=>true) false fuel t c=some (d,p)→c=cs):Tbl w g cs:=by
 obtain ⟨g',t',c,fuel,p,h1,h2,h3,h4⟩:=h
 obtain rfl:=Option.some.inj (hg.symm.trans h1)
 obtain rfl:=Option.some.inj (hty.symm.trans h2)
 obtain ⟨ty,fr,hh⟩:=var_heap hg h3
 exact ⟨ty,fr,by rw [hh,←hc _ _ _ h4]⟩
theorem inner_mark (w:World) (fuel:Nat) (c:List Value) (x:Int) (p:List MemPlace) (h:DataW.trod (fun _=>()) Tryz.prog w 0 (fun _=>true) false fuel 21 c=some (.lit (.int .i32 x),p)):c=[.int .i32 x]:=int_cell h
theorem flat_nums (l:List Int):(l.flatMap fun x=>[Value.int .i32 x])=nums l:=by
 induction l with
 | nil=>rfl
 | cons x t ih=>rw [List.flatMap_cons,ih];rfl
theorem laid_of {W:World} (h:laidMetH Tryz.prog Rows.syntaxMaysUptoRow.laid W):Laid W:=by
 rw [MakeChecks.laidMetH_plain _ _ _ (by kernel_rfl)] at h
 obtain ⟨ps,hv,_⟩:=h
 have r:=vars_reads hv
 refine ⟨tbl_of (t:=252) (by kernel_rfl) (by kernel_rfl) (r _ Rows.laid_trema_ucd_classes (.tail _ (.tail _ (.tail _ (.head _))))) fun fuel c p hd=>?_,
  tbl_of (t:=301) (by kernel_rfl) (by kernel_rfl) (r _ Rows.laid_trema_ucd_lowRows (.tail _ (.head _))) fun fuel c p hd=>?_,
  tbl_of (t:=302) (by kernel_rfl) (by kernel_rfl) (r _ Rows.laid_trema_ucd_highRows (.tail _ (.tail _ (.head _)))) fun fuel c p hd=>?_,
  tbl_of (t:=249) (by kernel_rfl) (by kernel_rfl) (r _ Rows.laid_trema_ucd_listed (.tail _ (.tail _ (.tail _ (.tail _ (.tail _ (.head _))))))) fun fuel c p hd=>?_,
  tbl_of (t:=291) (by kernel_rfl) (by kernel_rfl) (r _ Rows.laid_trema_ucd_marks (.tail _ (.tail _ (.tail _ (.tail _ (.head _)))))) fun fuel c p hd=>?_,trivial⟩
 ·exact cells_of_rows d3 (fun x=>[.int .i32 x.1,.int .i32 x.2.1,.int .i32 x.2.2]) clsRows Tryz.underlying252 cellsStretch (by kernel_rfl) (inner_stretch W) hd
 ·exact cells_of_rows d3 (fun x=>[.int .i32 x.1,.int .i32 x.2.1,.int .i32 x.2.2]) lowRows Tryz.underlying301 cellsStretch (by kernel_rfl) (inner_stretch W) hd
 ·exact cells_of_rows d3 (fun x=>[.int .i32 x.1,.int .i32 x.2.1,.int .i32 x.2.2]) highRows Tryz.underlying302 cellsStretch (by kernel_rfl) (inner_stretch W) hd
 ·exact cells_of_rows d3 (fun x=>[.int .i32 x.1,.int .i32 x.2.1,.int .i32 x.2.2]) listRows Tryz.underlying249 cellsPair (by kernel_rfl) (inner_pair W) hd
 ·rw [←flat_nums]
  exact cells_of_rows (fun x=>.lit (.int .i32 x)) (fun x=>[.int .i32 x]) markList Tryz.underlying291 cells32 (by kernel_rfl) (inner_mark W) hd
noncomputable def laidWorld (os:Os):World:=World.laidAll Tryz.prog os Rows.syntaxMaysUptoRow.laid
theorem laid_met (os:Os) (args:Array Value):laidMet Tryz.prog Rows.syntaxMaysUptoRow.laid ((laidWorld os).forCall (fun _ _=>0) ⟨#[],args,[]⟩).memory :=
 laidMet_laidAll _ (by kernel_rfl) (by kernel_rfl)
theorem witness_row_shaped {H:Type} {enc:TypeId × Value→H} {C:Checked} {os:Os} {f:FuncId} {fn:Func} {s:OpenSpec} {conds:List PathCond} {apart:Bool} {laid:List (String × DataW Unit)} (modest:Bool) (w0:World) (args:Array Value) (hos:w0.os=os)
  (hsh:(w0.forCall (fun _ _=>0) ⟨#[],args,[]⟩).Shaped C.prog)
  (hok:Input.okWideB C.prog (w0.forCall (fun _ _=>0) ⟨#[],args,[]⟩) f ⟨#[],args,[]⟩=true)
  (hrow:s.preRow enc C.prog fn conds apart laid (w0.forCall (fun _ _=>0) ⟨#[],args,[]⟩).memory args) :
  ∃(w:World) (tape:Tape) (i:Input),w.os=os∧(w.forCall tape i).Shaped C.prog∧i.vars=[]∧Input.okWide C.prog (w.forCall tape i) .any w.heap.size f i ∧
   s.preRow enc C.prog fn conds apart laid (w.forCall tape i).memory i.args∧({ modest:=modest }:Assume).holds C.prog (lone (Frame.enter C.prog f i.args .normal) [] (w.forCall tape i)) :=
 ⟨w0,fun _ _=>0,⟨#[],args,[]⟩,hos,hsh,(Input.okWide_of_okWideB (base:=0) hok).1,(Input.okWide_of_okWideB hok).2,hrow,by
  simp only [Assume.holds]
  exact ⟨by simp,by simp,fun _=>Modest.zero,by simp,by simp⟩⟩
theorem and_both {a b:Bool} (h:a=true) (k:b=true):(a && b)=true:=by rw [h,k];rfl
end Go.Proofs.YtkgeiokckfpjlaaGreatDoor.Syn
