/-
  Texts of stage 7, part 10.
-/
import Derived.KernelRfl
namespace Go.Proofs.YtdngaddggcmjgaaDoor.Ucd
def look (d:Int):List (Int × Int × Int)→Int→Int
 | [],_=>d
 | x :: t,r=>if r < x.1 then d else if r≤x.2.1 then x.2.2 else look d t r
def pick (d:Int):List (Int × Int × Int)→Int→Int
 | [],_=>d
 | x :: t,r=>if x.1≤r∧r≤x.2.1 then x.2.2 else pick d t r
def ends (rows:List (Int × Int × Int)):List Int:=rows.flatMap fun x=>[x.1,x.2.1+1]
theorem ends_lo {rows:List (Int × Int × Int)} {x:Int × Int × Int} (h:x∈rows):x.1∈ends rows:=by
 simp only [ends,List.mem_flatMap];exact ⟨x,h,by simp⟩
theorem ends_hi {rows:List (Int × Int × Int)} {x:Int × Int × Int} (h:x∈rows):x.2.1+1∈ends rows:=by
 simp only [ends,List.mem_flatMap];exact ⟨x,h,by simp⟩
theorem look_same {d r b:Int}:∀{rows:List (Int × Int × Int)},(∀y∈ends rows,(y≤r↔y≤b))→look d rows r=look d rows b:=by
 intro rows
 induction rows with
 | nil=>intro _;rfl
 | cons x t ih =>
  intro h
  have h1:=h x.1 (ends_lo (by simp))
  have h2:=h (x.2.1+1) (ends_hi (by simp))
  have h3:=ih fun y hy=>h y (by simp only [ends,List.flatMap_cons,List.mem_append] at hy ⊢;exact .inr hy)
  simp only [look,h3]
  have e1:(r < x.1)↔(b < x.1):=by omega
  have e2:(r≤x.2.1)↔(b≤x.2.1):=by omega
  simp only [e1,e2]
theorem pick_same {d r b:Int}:∀{rows:List (Int × Int × Int)},(∀y∈ends rows,(y≤r↔y≤b))→pick d rows r=pick d rows b:=by
 intro rows
 induction rows with
 | nil=>intro _;rfl
 | cons x t ih =>
  intro h
  have h1:=h x.1 (ends_lo (by simp))
  have h2:=h (x.2.1+1) (ends_hi (by simp))
  have h3:=ih fun y hy=>h y (by simp only [ends,List.flatMap_cons,List.mem_append] at hy ⊢;exact .inr hy)
  simp only [pick,h3]
  have e1:(x.1≤r∧r≤x.2.1)↔(x.1≤b∧b≤x.2.1):=by omega
  simp only [e1]
theorem floor_of (r:Int):∀L:List Int,(∀y∈L,¬y≤r)∨∃b∈L,b≤r∧∀y∈L,y≤r→y≤b:=by
 intro L
 induction L with
 | nil=>exact .inl (by simp)
 | cons x t ih =>
  by_cases hx:x≤r
  ·refine .inr ?_
   rcases ih with h | ⟨b,hb,hbr,hm⟩
   ·refine ⟨x,by simp,hx,fun y hy hyr=>?_⟩
    rcases List.mem_cons.1 hy with rfl | hy
    ·omega
    ·exact absurd hyr (h y hy)
   ·by_cases hxb:x≤b
    ·refine ⟨b,by simp [hb],hbr,fun y hy hyr=>?_⟩
     rcases List.mem_cons.1 hy with rfl | hy
     ·exact hxb
     ·exact hm y hy hyr
    ·refine ⟨x,by simp,hx,fun y hy hyr=>?_⟩
     rcases List.mem_cons.1 hy with rfl | hy
     ·omega
     ·have:=hm y hy hyr;omega
  ·rcases ih with h | ⟨b,hb,hbr,hm⟩
   ·refine .inl fun y hy=>?_
    rcases List.mem_cons.1 hy with rfl | hy
    ·exact hx
    ·exact h y hy
   ·refine .inr ⟨b,by simp [hb],hbr,fun y hy hyr=>?_⟩
    rcases List.mem_cons.1 hy with rfl | hy
    ·exact absurd hyr hx
    ·exact hm y hy hyr
theorem at_all {p:Int→Prop} {L:List Int} (hs:∀r b:Int,(∀y∈L,(y≤r↔y≤b))→(p r↔p b)) (h:∀b∈L,p b) (low:Int) (hl:∀y∈L,¬y≤low) (h0:p low) (r:Int):p r:=by
 rcases floor_of r L with hn | ⟨b,hb,hbr,hm⟩
 ·exact (hs r low fun y hy=>⟨fun h=>absurd h (hn y hy),fun h=>absurd h (hl y hy)⟩).2 h0
 ·exact (hs r b fun y hy=>⟨fun h=>hm y hy h,fun h=>by omega⟩).2 (h b hb)
def lowRows:List (Int × Int × Int):=[(32,32,6),(33,35,4),(36,36,5),(37,42,4),(43,43,5),(44,47,4),(48,57,3),(58,59,4),(60,62,5),(63,64,4),(65,90,1),(91,93,4),(94,94,5),(95,95,4),(96,96,5),(97,122,1),(123,123,4),(124,124,5),(125,125,4),(126,126,5),(160,160,6),(161,161,4),(162,166,5),(167,167,4),(168,169,5),(170,170,1),(171,171,4),(172,172,5),(174,177,5),(178,179,3),(180,180,5),(181,181,1),(182,183,4),(184,184,5),(185,185,3),(186,186,1),(187,187,4),(188,190,3),(191,191,4),(192,214,1),(215,215,5),(216,246,1),(247,247,5)]
def highRows:List (Int × Int × Int):=[(248,687,1),(768,879,2),(902,902,1),(903,903,4),(904,1153,1),(1155,1161,2),(1162,1327,1),(1632,1641,3),(4352,4607,1),(7680,8124,1),(8192,8202,6),(8208,8231,4),(8232,8233,6),(8240,8259,4),(8352,8384,5),(8400,8412,2),(8486,8486,1),(8490,8491,1),(8592,8959,5),(12288,12288,6),(12289,12291,4),(12353,12438,1),(12441,12442,2),(12449,12538,1),(19968,40959,1),(44032,55203,1),(65296,65305,3),(65533,65533,5),(128512,128591,5)]
def clsRows:List (Int × Int × Int):=[(768,788,230),(789,789,232),(790,793,220),(794,794,232),(795,795,216),(796,800,220),(801,802,202),(803,806,220),(807,808,202),(809,819,220),(820,824,1),(825,828,220),(829,836,230),(837,837,240),(838,838,230),(839,841,220),(842,844,230),(845,846,220),(848,850,230),(851,854,220),(855,855,230),(8400,8401,230),(12441,12442,8)]
def shRows:List (Int × Int × Int × Int):=[(65,90,1,32),(192,222,1,32),(913,937,1,32),(1040,1071,1,32),(1024,1039,1,80),(256,302,2,1),(306,310,2,1),(330,374,2,1),(7680,7828,2,1),(313,327,2,1),(377,381,2,1)]
def listRows:List (Int × Int × Int):=[(469,220,772),(470,252,772),(832,768,0),(833,769,0),(835,787,0),(836,776,769),(902,913,769),(912,970,769),(940,945,769),(943,953,769),(970,953,776),(972,959,769),(7691,100,775),(7693,100,803),(7777,115,775),(7779,115,803),(7785,7779,775),(7841,97,803),(7844,194,769),(7845,226,769),(7863,7841,774),(7865,101,803),(7879,7865,770),(8049,940,0),(8115,945,837),(8486,937,0),(8490,75,0),(8491,197,0),(8800,61,824),(12364,12363,12441),(12497,12495,12442)]
def markList:List Int:=[768,769,770,771,772,774,775,776,778,779,780,807,808]
def refCls:List (Int × Int × Int):=[(768,788,230),(829,836,230),(838,838,230),(842,844,230),(848,850,230),(855,855,230),(8400,8401,230),(789,789,232),(794,794,232),(790,793,220),(796,800,220),(803,806,220),(809,819,220),(825,828,220),(839,841,220),(845,846,220),(851,854,220),(795,795,216),(801,802,202),(807,808,202),(820,824,1),(837,837,240),(12441,12442,8)]
def cls (r:Int):Int:=look 0 clsRows r
def catRows:List (Int × Int × Int):=lowRows++highRows
def cat (r:Int):Int:=look 7 catRows r
def trl (r:Int):Bool:=decide ((4449≤r∧r≤4469)∨(4520≤r∧r≤4546))
theorem cls_ref (r:Int):pick 0 refCls r=cls r:=by
 refine at_all (p:=fun r=>pick 0 refCls r=cls r) (L:=ends refCls++ends clsRows) (fun r b h=>?_) ?_ (-1) ?_ ?_ r
 ·rw [pick_same (b:=b) fun y hy=>h y (by simp [hy]),show cls r=cls b from look_same fun y hy=>h y (by simp [hy])]
 ·decide +kernel
 ·decide +kernel
 ·decide +kernel
end Go.Proofs.YtdngaddggcmjgaaDoor.Ucd
namespace Go.Proofs.YtdngaddggcmjgaaDoor.Ucd
def basesL:List Nat:=[65,65,65,65,65,65,46,67,69,69,69,69,73,73,73,73,46,78,79,79,79,79,79,46,46,85,85,85,85,89,46,46,97,97,97,97,97,97,46,99,101,101,101,101,105,105,105,105,46,110,111,111,111,111,111,46,46,117,117,117,117,121,46,121,65,97,65,97,65,97,67,99,67,99,67,99,67,99,68,100,46,46,69,101,69,101,69,101,69,101,69,101,71,103,71,103,71,103,71,103,72,104,46,46,73,105,73,105,73,105,73,105,73,46,46,46,74,106,75,107,46,76,108,76,108,76,108,46,46,46,46,78,110,78,110,78,110,46,46,46,79,111,79,111,79,111,46,46,82,114,82,114,82,114,83,115,83,115,83,115,83,115,84,116,84,116,46,46,85,117,85,117,85,117,85,117,85,117,85,117,87,119,89,121,89,90,122,90,122,90,122,46]
def namesL:List Nat:=[103,97,99,116,100,114,46,101,103,97,99,100,103,97,99,100,46,116,103,97,99,116,100,46,46,103,97,99,100,97,46,46,103,97,99,116,100,114,46,101,103,97,99,100,103,97,99,100,46,116,103,97,99,116,100,46,46,103,97,99,100,97,46,100,109,109,98,98,111,111,97,97,99,99,112,112,118,118,118,118,46,46,109,109,98,98,112,112,111,111,118,118,99,99,98,98,112,112,101,101,99,99,46,46,116,116,109,109,98,98,111,111,112,46,46,46,99,99,101,101,46,97,97,101,101,118,118,46,46,46,46,97,97,101,101,118,118,46,46,46,109,109,98,98,113,113,46,46,97,97,101,101,118,118,97,97,99,99,101,101,118,118,101,101,118,118,46,46,116,116,109,109,98,98,114,114,113,113,111,111,99,99,99,99,100,97,97,112,112,118,118,46]
def nameL:List Nat:=[103,97,99,116,109,98,112,100,114,113,118,101,111]
def mkGo:List (Nat × Int)→Int→Int
 | [],_=>0
 | x :: t,c=>if (x.1:Int)=c then x.2 else mkGo t c
def mk (c:Int):Int:=mkGo (nameL.zip markList) c
def latT:List (Int × Int × Int):=List.zipWith (fun (b n:Nat)=>if b=46 then (0,0,0) else ((b:Int),mk n,2)) basesL namesL
theorem lat_at (i:Nat) (h:i < 192) (h1:i < basesL.length) (h2:i < namesL.length):latT.getD i (0,0,0)=if basesL[i]'h1=46 then (0,0,0) else (((basesL[i]'h1:Nat):Int),mk (namesL[i]'h2:Nat),2):=by
 have hl:i < latT.length:=by show i < 192;exact h
 have e:latT.getD i (0,0,0)=latT[i]:=by rw [List.getD,List.getElem?_eq_getElem hl];rfl
 rw [e]
 simp only [latT,List.getElem_zipWith]
def sylA (s:Int):Int:=if s % 28=0 then 4352+s / 588 else 44032+s - s % 28
def sylB (s:Int):Int:=if s % 28=0 then 4449+s % 588 / 28 else 4519+s % 28
def lst:List (Int × Int × Int)→Int→Int × Int × Int
 | [],_=>(0,0,0)
 | x :: t,r=>if r < x.1 then (0,0,0) else if r=x.1 then (x.2.1,x.2.2,if x.2.2=0 then 1 else 2) else lst t r
def pairF (r:Int):Int × Int × Int :=
 if 192≤r∧r≤383 then latT.getD (r - 192).toNat (0,0,0)
 else if 44032≤r∧r≤55203 then (sylA (r - 44032),sylB (r - 44032),2)
 else lst listRows r
def full:Nat→Int→List Int
 | 0,r=>[r]
 | k+1,r=>if (pairF r).2.2=0 then [r] else full k (pairF r).1++(if (pairF r).2.2=2 then full k (pairF r).2.1 else [])
def dep:Nat→Int→Bool
 | 0,r=>(pairF r).2.2 == 0
 | k+1,r=>(pairF r).2.2 == 0 || (dep k (pairF r).1 && ((pairF r).2.2 == 1 || ((pairF r).2.2 == 2 && dep k (pairF r).2.1)))
def plainB (r:Int):Bool:=!(decide (192≤r∧r≤383) || decide (44032≤r∧r≤55203) || listRows.any fun x=>x.1 == r)
theorem lst_none:∀{l:List (Int × Int × Int)} {r:Int},(l.any fun x=>x.1 == r)=false→lst l r=(0,0,0):=by
 intro l
 induction l with
 | nil=>intro r _;rfl
 | cons x t ih =>
  intro r h
  simp only [List.any_cons,Bool.or_eq_false_iff,beq_eq_false_iff_ne,ne_eq] at h
  simp only [lst,ih h.2]
  have:¬r=x.1:=fun e=>h.1 e.symm
  rw [if_neg this]
  simp
theorem plain_pair {r:Int} (h:plainB r=true):pairF r=(0,0,0):=by
 simp only [plainB,Bool.not_eq_true',Bool.or_eq_false_iff,decide_eq_false_iff_not] at h
 unfold pairF
 rw [if_neg h.1.1,if_neg h.1.2,lst_none h.2]
theorem kinds (p:Int→Prop) (h1:∀r,plainB r=true→p r) (h2:∀i < 192,p (192+(i:Nat))) (h3:∀s,0≤s→s≤11171→p (44032+s)) (h4:∀x∈listRows,p x.1) (r:Int):p r:=by
 by_cases ha:192≤r∧r≤383
 ·have:=h2 (r - 192).toNat (by omega)
  rwa [show 192+(((r - 192).toNat:Nat):Int)=r from by omega] at this
 by_cases hb:44032≤r∧r≤55203
 ·have:=h3 (r - 44032) (by omega) (by omega)
  rwa [show 44032+(r - 44032)=r from by omega] at this
 by_cases hc:(listRows.any fun x=>x.1 == r)=true
 ·obtain ⟨x,hx,e⟩:=List.any_eq_true.1 hc
  have:=h4 x hx
  rwa [eq_of_beq e] at this
 ·exact h1 r (by simp only [plainB,decide_eq_false ha,decide_eq_false hb,Bool.eq_false_iff.2 hc];rfl)
theorem syl_pair {s:Int} (h0:0≤s) (h1:s≤11171):pairF (44032+s)=(sylA s,sylB s,2):=by
 unfold pairF
 rw [if_neg (by omega),if_pos (by omega),show 44032+s - 44032=s from by omega]
theorem lead_plain:∀i < 19,plainB (4352+(i:Nat))=true:=by decide +kernel
theorem vowel_plain:∀i < 21,plainB (4449+(i:Nat))=true:=by decide +kernel
theorem tail_plain:∀i < 28,plainB (4519+(i:Nat))=true:=by decide +kernel
theorem plain_lead {x:Int} (h:4352≤x) (h':x≤4370):plainB x=true:=by
 have:=lead_plain (x - 4352).toNat (by omega);rwa [show 4352+(((x - 4352).toNat:Nat):Int)=x from by omega] at this
theorem plain_vowel {x:Int} (h:4449≤x) (h':x≤4469):plainB x=true:=by
 have:=vowel_plain (x - 4449).toNat (by omega);rwa [show 4449+(((x - 4449).toNat:Nat):Int)=x from by omega] at this
theorem plain_tail {x:Int} (h:4519≤x) (h':x≤4546):plainB x=true:=by
 have:=tail_plain (x - 4519).toNat (by omega);rwa [show 4519+(((x - 4519).toNat:Nat):Int)=x from by omega] at this
theorem syl_open {s:Int} (h0:0≤s) (h1:s≤11171) (hz:s % 28=0):pairF (44032+s)=(4352+s / 588,4449+s % 588 / 28,2):=by
 rw [syl_pair h0 h1];simp only [sylA,sylB,if_pos hz]
theorem syl_closed {s:Int} (h0:0≤s) (h1:s≤11171) (hz:¬s % 28=0):pairF (44032+s)=(44032+(s - s % 28),4519+s % 28,2):=by
 rw [syl_pair h0 h1];simp only [sylA,sylB,if_neg hz];rw [show 44032+s - s % 28=44032+(s - s % 28) from by omega]
theorem full_plain {r:Int} (k:Nat) (h:plainB r=true):full k r=[r]:=by
 cases k with
 | zero=>rfl
 | succ k=>simp only [full,plain_pair h,if_true]
theorem dep_plain {r:Int} (k:Nat) (h:plainB r=true):dep k r=true:=by
 cases k with
 | zero=>simp [dep,plain_pair h]
 | succ k=>simp [dep,plain_pair h]
theorem full_open {s:Int} (k:Nat) (h0:0≤s) (h1:s≤11171) (hz:s % 28=0):full (k+1) (44032+s)=[4352+s / 588,4449+s % 588 / 28]:=by
 simp only [full,syl_open h0 h1 hz,full_plain k (plain_lead (x:=4352+s / 588) (by omega) (by omega)),full_plain k (plain_vowel (x:=4449+s % 588 / 28) (by omega) (by omega))]
 rfl
theorem dep_open {s:Int} (k:Nat) (h0:0≤s) (h1:s≤11171) (hz:s % 28=0):dep (k+1) (44032+s)=true:=by
 simp only [dep,syl_open h0 h1 hz,dep_plain k (plain_lead (x:=4352+s / 588) (by omega) (by omega)),dep_plain k (plain_vowel (x:=4449+s % 588 / 28) (by omega) (by omega))]
 rfl
theorem full_closed {s:Int} (k:Nat) (h0:0≤s) (h1:s≤11171) (hz:¬s % 28=0):full (k+2) (44032+s)=[4352+s / 588,4449+s % 588 / 28,4519+s % 28]:=by
 rw [full,syl_closed h0 h1 hz]
 simp only [full_open k (s:=s - s % 28) (by omega) (by omega) (by omega),full_plain (k+1) (plain_tail (x:=4519+s % 28) (by omega) (by omega))]
 rw [show (s - s % 28) / 588=s / 588 from by omega,show (s - s % 28) % 588 / 28=s % 588 / 28 from by omega]
 rfl
theorem dep_closed {s:Int} (k:Nat) (h0:0≤s) (h1:s≤11171) (hz:¬s % 28=0):dep (k+2) (44032+s)=true:=by
 rw [dep,syl_closed h0 h1 hz]
 simp only [dep_open k (s:=s - s % 28) (by omega) (by omega) (by omega),dep_plain (k+1) (plain_tail (x:=4519+s % 28) (by omega) (by omega))]
 rfl
theorem dep_all (r:Int):dep 3 r=true:=by
 refine kinds (fun r=>dep 3 r=true) (fun r h=>dep_plain 3 h) (by decide +kernel) (fun s h0 h1=>?_) (by decide +kernel) r
 by_cases hz:s % 28=0
 ·exact dep_open 2 h0 h1 hz
 ·exact dep_closed 1 h0 h1 hz
def fullF (r:Int):List Int:=full 3 r
def fstF (r:Int):Int:=(fullF r).headD 0
def opn (r:Int):Bool:=cls (fstF r) == 0 && !trl (fstF r)
def hgt:Nat→Int→Nat
 | 0,_=>0
 | k+1,x=>if (pairF x).2.2=0 then 0 else hgt k (pairF x).1+1
def hd:Nat→Int→Int
 | 0,x=>x
 | k+1,x=>if (pairF x).2.2=0 then x else hd k (pairF x).1
theorem dep_fst {k:Nat} {x:Int} (h:dep (k+1) x=true) (hz:¬(pairF x).2.2=0):dep k (pairF x).1=true:=by
 have e:((pairF x).2.2 == 0)=false:=by simpa using hz
 rw [dep,e,Bool.false_or,Bool.and_eq_true] at h
 exact h.1
theorem hgt_more (k:Nat):∀x,dep k x=true→hgt (k+1) x=hgt k x:=by
 induction k with
 | zero =>
  intro x h;have:(pairF x).2.2=0:=by simpa [dep] using h
  simp [hgt,this]
 | succ k ih =>
  intro x h
  by_cases hz:(pairF x).2.2=0
  ·simp [hgt,hz]
  ·have e1:hgt (k+1+1) x=if (pairF x).2.2=0 then 0 else hgt (k+1) (pairF x).1+1:=rfl
   have e2:hgt (k+1) x=if (pairF x).2.2=0 then 0 else hgt k (pairF x).1+1:=rfl
   rw [e1,e2,if_neg hz,if_neg hz,ih _ (dep_fst h hz)]
theorem hd_more (k:Nat):∀x,dep k x=true→hd (k+1) x=hd k x:=by
 induction k with
 | zero =>
  intro x h;have:(pairF x).2.2=0:=by simpa [dep] using h
  simp [hd,this]
 | succ k ih =>
  intro x h
  by_cases hz:(pairF x).2.2=0
  ·simp [hd,hz]
  ·have e1:hd (k+1+1) x=if (pairF x).2.2=0 then x else hd (k+1) (pairF x).1:=rfl
   have e2:hd (k+1) x=if (pairF x).2.2=0 then x else hd k (pairF x).1:=rfl
   rw [e1,e2,if_neg hz,if_neg hz,ih _ (dep_fst h hz)]
theorem hgt_step {x:Int} (hz:¬(pairF x).2.2=0):hgt 3 x=hgt 3 (pairF x).1+1:=by
 rw [←hgt_more 3 x (dep_all x),hgt,if_neg hz]
theorem hd_step {x:Int} (hz:¬(pairF x).2.2=0):hd 3 x=hd 3 (pairF x).1:=by
 rw [←hd_more 3 x (dep_all x),hd,if_neg hz]
theorem full_hd (k:Nat):∀x,∃t,full k x=hd k x :: t:=by
 induction k with
 | zero=>intro x;exact ⟨[],rfl⟩
 | succ k ih =>
  intro x
  by_cases hz:(pairF x).2.2=0
  ·exact ⟨[],by simp [full,hd,hz]⟩
  ·obtain ⟨t,ht⟩:=ih (pairF x).1
   refine ⟨t++(if (pairF x).2.2=2 then full k (pairF x).2.1 else []),?_⟩
   rw [full,hd,if_neg hz,if_neg hz,ht]
   rfl
theorem fst_hd (x:Int):fstF x=hd 3 x:=by
 obtain ⟨t,ht⟩:=full_hd 3 x
 rw [fstF,fullF,ht];rfl
theorem pair_n (x:Int):(pairF x).2.2=0∨(pairF x).2.2=1∨(pairF x).2.2=2:=by
 have h:=dep_all x
 rw [dep] at h
 simp only [Bool.or_eq_true,Bool.and_eq_true,beq_iff_eq] at h
 rcases h with h | ⟨_,h | ⟨h,_⟩⟩
 ·exact .inl h
 ·exact .inr (.inl h)
 ·exact .inr (.inr h)
end Go.Proofs.YtdngaddggcmjgaaDoor.Ucd
