/-
  Texts of stage 7, part 16.
-/
import Derived.Test.YtdngaddggcmjgaaDoorW13
import Derived.Test.YtdngaddggcmjgaaDoorW14
import Derived.Test.YtdngaddggcmjgaaDoorW15
namespace Go.Proofs.YtdngaddggcmjgaaDoor.Ucd
open Go.RowKit Utf
def Told (w:World) (l:List Int) (n:Nat) (e:Ending) (w':World):Prop:=∃A c,e=.returned (.slice A n c)∧Rd w' w'.heap.size A (nums l)∧Below w.heap.size w w'
end Go.Proofs.YtdngaddggcmjgaaDoor.Ucd
namespace Go.Proofs.YtdngaddggcmjgaaDoor.Ucd
open Go.RowKit Utf
def fewT:List (Int × Int × Int × Int):=[(469,220,772,2),(470,252,772,2),(832,768,0,1),(833,769,0,1),(835,787,0,1),(836,776,769,2),(902,913,769,2),(912,970,769,2),(940,945,769,2),(943,953,769,2),(970,953,776,2),(972,959,769,2),(7691,100,775,2),(7693,100,803,2),(7777,115,775,2),(7779,115,803,2),(7785,7779,775,2),(7841,97,803,2),(7844,194,769,2),(7845,226,769,2),(7863,7841,774,2),(7865,101,803,2),(7879,7865,770,2),(8049,940,0,1),(8115,945,837,2),(8486,937,0,1),(8490,75,0,1),(8491,197,0,1),(8800,61,824,2),(12364,12363,12441,2),(12497,12495,12442,2)]
def kfind:List (Int × Int × Int × Int)→Int→Int × Int × Int
 | [],_=>(0,0,0)
 | x :: t,r=>if r=x.1 then x.2 else kfind t r
theorem kfind_no:∀{l:List (Int × Int × Int × Int)} {r:Int},(∀x∈l,r≠x.1)→kfind l r=(0,0,0):=by
 intro l
 induction l with
 | nil=>intro r _;rfl
 | cons x t ih=>intro r h;rw [kfind,if_neg (h x (by simp)),ih fun y hy=>h y (by simp [hy])]
theorem few_keys:∀x∈fewT,kfind fewT x.1=lst listRows x.1:=by decide +kernel
theorem few_lst (r:Int):kfind fewT r=lst listRows r:=by
 by_cases h:∃x∈fewT,r=x.1
 ·obtain ⟨x,hx,rfl⟩:=h
  exact few_keys x hx
 ·have hn:∀x∈fewT,r≠x.1:=fun x hx e=>h ⟨x,hx,e⟩
  rw [kfind_no hn,lst_none]
  have hk:∀y∈listRows,∃x∈fewT,x.1=y.1:=by decide +kernel
  simp only [List.any_eq_false,beq_iff_eq]
  intro y hy e
  obtain ⟨x,hx,e2⟩:=hk y hy
  exact hn x hx (by rw [e2,e])
set_option maxRecDepth 100000 in
set_option maxHeartbeats 16000000 in
theorem few_any (r:Int) (w:World):Calls Tryd.prog 66 #[.int .i32 r] w fun e w'=>e=.returned (trip (kfind fewT r))∧w=w':=by
 by_cases k0:r=469
 ·as_aux_lemma =>
  subst k0
  go_enter Tryd.func66,Tryd.ntmps66
  go_wp2
  exact bodyPost_ret (v:=.tuple #[.int .i32 220,.int .i32 772,.int .i64 2]) (by simp [results,Tryd.results66,go_sem]) rfl ⟨rfl,rfl⟩
 by_cases k1:r=470
 ·as_aux_lemma =>
  subst k1
  go_enter Tryd.func66,Tryd.ntmps66
  go_wp2
  exact bodyPost_ret (v:=.tuple #[.int .i32 252,.int .i32 772,.int .i64 2]) (by simp [results,Tryd.results66,go_sem]) rfl ⟨rfl,rfl⟩
 by_cases k2:r=832
 ·as_aux_lemma =>
  subst k2
  go_enter Tryd.func66,Tryd.ntmps66
  go_wp2
  exact bodyPost_ret (v:=.tuple #[.int .i32 768,.int .i32 0,.int .i64 1]) (by simp [results,Tryd.results66,go_sem]) rfl ⟨rfl,rfl⟩
 by_cases k3:r=833
 ·as_aux_lemma =>
  subst k3
  go_enter Tryd.func66,Tryd.ntmps66
  go_wp2
  exact bodyPost_ret (v:=.tuple #[.int .i32 769,.int .i32 0,.int .i64 1]) (by simp [results,Tryd.results66,go_sem]) rfl ⟨rfl,rfl⟩
 by_cases k4:r=835
 ·as_aux_lemma =>
  subst k4
  go_enter Tryd.func66,Tryd.ntmps66
  go_wp2
  exact bodyPost_ret (v:=.tuple #[.int .i32 787,.int .i32 0,.int .i64 1]) (by simp [results,Tryd.results66,go_sem]) rfl ⟨rfl,rfl⟩
 by_cases k5:r=836
 ·as_aux_lemma =>
  subst k5
  go_enter Tryd.func66,Tryd.ntmps66
  go_wp2
  exact bodyPost_ret (v:=.tuple #[.int .i32 776,.int .i32 769,.int .i64 2]) (by simp [results,Tryd.results66,go_sem]) rfl ⟨rfl,rfl⟩
 by_cases k6:r=902
 ·as_aux_lemma =>
  subst k6
  go_enter Tryd.func66,Tryd.ntmps66
  go_wp2
  exact bodyPost_ret (v:=.tuple #[.int .i32 913,.int .i32 769,.int .i64 2]) (by simp [results,Tryd.results66,go_sem]) rfl ⟨rfl,rfl⟩
 by_cases k7:r=912
 ·as_aux_lemma =>
  subst k7
  go_enter Tryd.func66,Tryd.ntmps66
  go_wp2
  exact bodyPost_ret (v:=.tuple #[.int .i32 970,.int .i32 769,.int .i64 2]) (by simp [results,Tryd.results66,go_sem]) rfl ⟨rfl,rfl⟩
 by_cases k8:r=940
 ·as_aux_lemma =>
  subst k8
  go_enter Tryd.func66,Tryd.ntmps66
  go_wp2
  exact bodyPost_ret (v:=.tuple #[.int .i32 945,.int .i32 769,.int .i64 2]) (by simp [results,Tryd.results66,go_sem]) rfl ⟨rfl,rfl⟩
 by_cases k9:r=943
 ·as_aux_lemma =>
  subst k9
  go_enter Tryd.func66,Tryd.ntmps66
  go_wp2
  exact bodyPost_ret (v:=.tuple #[.int .i32 953,.int .i32 769,.int .i64 2]) (by simp [results,Tryd.results66,go_sem]) rfl ⟨rfl,rfl⟩
 by_cases k10:r=970
 ·as_aux_lemma =>
  subst k10
  go_enter Tryd.func66,Tryd.ntmps66
  go_wp2
  exact bodyPost_ret (v:=.tuple #[.int .i32 953,.int .i32 776,.int .i64 2]) (by simp [results,Tryd.results66,go_sem]) rfl ⟨rfl,rfl⟩
 by_cases k11:r=972
 ·as_aux_lemma =>
  subst k11
  go_enter Tryd.func66,Tryd.ntmps66
  go_wp2
  exact bodyPost_ret (v:=.tuple #[.int .i32 959,.int .i32 769,.int .i64 2]) (by simp [results,Tryd.results66,go_sem]) rfl ⟨rfl,rfl⟩
 by_cases k12:r=7691
 ·as_aux_lemma =>
  subst k12
  go_enter Tryd.func66,Tryd.ntmps66
  go_wp2
  exact bodyPost_ret (v:=.tuple #[.int .i32 100,.int .i32 775,.int .i64 2]) (by simp [results,Tryd.results66,go_sem]) rfl ⟨rfl,rfl⟩
 by_cases k13:r=7693
 ·as_aux_lemma =>
  subst k13
  go_enter Tryd.func66,Tryd.ntmps66
  go_wp2
  exact bodyPost_ret (v:=.tuple #[.int .i32 100,.int .i32 803,.int .i64 2]) (by simp [results,Tryd.results66,go_sem]) rfl ⟨rfl,rfl⟩
 by_cases k14:r=7777
 ·as_aux_lemma =>
  subst k14
  go_enter Tryd.func66,Tryd.ntmps66
  go_wp2
  exact bodyPost_ret (v:=.tuple #[.int .i32 115,.int .i32 775,.int .i64 2]) (by simp [results,Tryd.results66,go_sem]) rfl ⟨rfl,rfl⟩
 by_cases k15:r=7779
 ·as_aux_lemma =>
  subst k15
  go_enter Tryd.func66,Tryd.ntmps66
  go_wp2
  exact bodyPost_ret (v:=.tuple #[.int .i32 115,.int .i32 803,.int .i64 2]) (by simp [results,Tryd.results66,go_sem]) rfl ⟨rfl,rfl⟩
 by_cases k16:r=7785
 ·as_aux_lemma =>
  subst k16
  go_enter Tryd.func66,Tryd.ntmps66
  go_wp2
  exact bodyPost_ret (v:=.tuple #[.int .i32 7779,.int .i32 775,.int .i64 2]) (by simp [results,Tryd.results66,go_sem]) rfl ⟨rfl,rfl⟩
 by_cases k17:r=7841
 ·as_aux_lemma =>
  subst k17
  go_enter Tryd.func66,Tryd.ntmps66
  go_wp2
  exact bodyPost_ret (v:=.tuple #[.int .i32 97,.int .i32 803,.int .i64 2]) (by simp [results,Tryd.results66,go_sem]) rfl ⟨rfl,rfl⟩
 by_cases k18:r=7844
 ·as_aux_lemma =>
  subst k18
  go_enter Tryd.func66,Tryd.ntmps66
  go_wp2
  exact bodyPost_ret (v:=.tuple #[.int .i32 194,.int .i32 769,.int .i64 2]) (by simp [results,Tryd.results66,go_sem]) rfl ⟨rfl,rfl⟩
 by_cases k19:r=7845
 ·as_aux_lemma =>
  subst k19
  go_enter Tryd.func66,Tryd.ntmps66
  go_wp2
  exact bodyPost_ret (v:=.tuple #[.int .i32 226,.int .i32 769,.int .i64 2]) (by simp [results,Tryd.results66,go_sem]) rfl ⟨rfl,rfl⟩
 by_cases k20:r=7863
 ·as_aux_lemma =>
  subst k20
  go_enter Tryd.func66,Tryd.ntmps66
  go_wp2
  exact bodyPost_ret (v:=.tuple #[.int .i32 7841,.int .i32 774,.int .i64 2]) (by simp [results,Tryd.results66,go_sem]) rfl ⟨rfl,rfl⟩
 by_cases k21:r=7865
 ·as_aux_lemma =>
  subst k21
  go_enter Tryd.func66,Tryd.ntmps66
  go_wp2
  exact bodyPost_ret (v:=.tuple #[.int .i32 101,.int .i32 803,.int .i64 2]) (by simp [results,Tryd.results66,go_sem]) rfl ⟨rfl,rfl⟩
 by_cases k22:r=7879
 ·as_aux_lemma =>
  subst k22
  go_enter Tryd.func66,Tryd.ntmps66
  go_wp2
  exact bodyPost_ret (v:=.tuple #[.int .i32 7865,.int .i32 770,.int .i64 2]) (by simp [results,Tryd.results66,go_sem]) rfl ⟨rfl,rfl⟩
 by_cases k23:r=8049
 ·as_aux_lemma =>
  subst k23
  go_enter Tryd.func66,Tryd.ntmps66
  go_wp2
  exact bodyPost_ret (v:=.tuple #[.int .i32 940,.int .i32 0,.int .i64 1]) (by simp [results,Tryd.results66,go_sem]) rfl ⟨rfl,rfl⟩
 by_cases k24:r=8115
 ·as_aux_lemma =>
  subst k24
  go_enter Tryd.func66,Tryd.ntmps66
  go_wp2
  exact bodyPost_ret (v:=.tuple #[.int .i32 945,.int .i32 837,.int .i64 2]) (by simp [results,Tryd.results66,go_sem]) rfl ⟨rfl,rfl⟩
 by_cases k25:r=8486
 ·as_aux_lemma =>
  subst k25
  go_enter Tryd.func66,Tryd.ntmps66
  go_wp2
  exact bodyPost_ret (v:=.tuple #[.int .i32 937,.int .i32 0,.int .i64 1]) (by simp [results,Tryd.results66,go_sem]) rfl ⟨rfl,rfl⟩
 by_cases k26:r=8490
 ·as_aux_lemma =>
  subst k26
  go_enter Tryd.func66,Tryd.ntmps66
  go_wp2
  exact bodyPost_ret (v:=.tuple #[.int .i32 75,.int .i32 0,.int .i64 1]) (by simp [results,Tryd.results66,go_sem]) rfl ⟨rfl,rfl⟩
 by_cases k27:r=8491
 ·as_aux_lemma =>
  subst k27
  go_enter Tryd.func66,Tryd.ntmps66
  go_wp2
  exact bodyPost_ret (v:=.tuple #[.int .i32 197,.int .i32 0,.int .i64 1]) (by simp [results,Tryd.results66,go_sem]) rfl ⟨rfl,rfl⟩
 by_cases k28:r=8800
 ·as_aux_lemma =>
  subst k28
  go_enter Tryd.func66,Tryd.ntmps66
  go_wp2
  exact bodyPost_ret (v:=.tuple #[.int .i32 61,.int .i32 824,.int .i64 2]) (by simp [results,Tryd.results66,go_sem]) rfl ⟨rfl,rfl⟩
 by_cases k29:r=12364
 ·as_aux_lemma =>
  subst k29
  go_enter Tryd.func66,Tryd.ntmps66
  go_wp2
  exact bodyPost_ret (v:=.tuple #[.int .i32 12363,.int .i32 12441,.int .i64 2]) (by simp [results,Tryd.results66,go_sem]) rfl ⟨rfl,rfl⟩
 by_cases k30:r=12497
 ·as_aux_lemma =>
  subst k30
  go_enter Tryd.func66,Tryd.ntmps66
  go_wp2
  exact bodyPost_ret (v:=.tuple #[.int .i32 12495,.int .i32 12442,.int .i64 2]) (by simp [results,Tryd.results66,go_sem]) rfl ⟨rfl,rfl⟩
 have HF:=Lib.hid (show kfind fewT r=(0,0,0) by simp only [fewT,kfind,if_neg k0,if_neg k1,if_neg k2,if_neg k3,if_neg k4,if_neg k5,if_neg k6,if_neg k7,if_neg k8,if_neg k9,if_neg k10,if_neg k11,if_neg k12,if_neg k13,if_neg k14,if_neg k15,if_neg k16,if_neg k17,if_neg k18,if_neg k19,if_neg k20,if_neg k21,if_neg k22,if_neg k23,if_neg k24,if_neg k25,if_neg k26,if_neg k27,if_neg k28,if_neg k29,if_neg k30])
 have q0:(r == 469)=false:=by simpa using k0
 have q1:(r == 470)=false:=by simpa using k1
 have q2:(r == 832)=false:=by simpa using k2
 have q3:(r == 833)=false:=by simpa using k3
 have q4:(r == 835)=false:=by simpa using k4
 have q5:(r == 836)=false:=by simpa using k5
 have q6:(r == 902)=false:=by simpa using k6
 have q7:(r == 912)=false:=by simpa using k7
 have q8:(r == 940)=false:=by simpa using k8
 have q9:(r == 943)=false:=by simpa using k9
 have q10:(r == 970)=false:=by simpa using k10
 have q11:(r == 972)=false:=by simpa using k11
 have q12:(r == 7691)=false:=by simpa using k12
 have q13:(r == 7693)=false:=by simpa using k13
 have q14:(r == 7777)=false:=by simpa using k14
 have q15:(r == 7779)=false:=by simpa using k15
 have q16:(r == 7785)=false:=by simpa using k16
 have q17:(r == 7841)=false:=by simpa using k17
 have q18:(r == 7844)=false:=by simpa using k18
 have q19:(r == 7845)=false:=by simpa using k19
 have q20:(r == 7863)=false:=by simpa using k20
 have q21:(r == 7865)=false:=by simpa using k21
 have q22:(r == 7879)=false:=by simpa using k22
 have q23:(r == 8049)=false:=by simpa using k23
 have q24:(r == 8115)=false:=by simpa using k24
 have q25:(r == 8486)=false:=by simpa using k25
 have q26:(r == 8490)=false:=by simpa using k26
 have q27:(r == 8491)=false:=by simpa using k27
 have q28:(r == 8800)=false:=by simpa using k28
 have q29:(r == 12364)=false:=by simpa using k29
 have q30:(r == 12497)=false:=by simpa using k30
 clear k0 k1 k2 k3 k4 k5 k6 k7 k8 k9 k10 k11 k12 k13 k14 k15 k16 k17 k18 k19 k20 k21 k22 k23 k24 k25 k26 k27 k28 k29 k30
 rw [HF.out]
 go_enter Tryd.func66,Tryd.ntmps66
 go_wp2
 exact bodyPost_ret (v:=.tuple #[.int .i32 0,.int .i32 0,.int .i64 0]) (by simp [results,Tryd.results66,go_sem]) rfl ⟨rfl,rfl⟩
end Go.Proofs.YtdngaddggcmjgaaDoor.Ucd
namespace Go.Proofs.YtdngaddggcmjgaaDoor.Ucd
open Go.RowKit Utf
def okB (r:Int):Bool:=decide (1≤(fullF r).length) && decide ((fullF r).length≤3) && (fullF r).all (fun x=>(pairF x).2.2 == 0) && (fullF r).tail.all (fun x=>!opn x) && (opn ((fullF r).headD 0) == opn r)
theorem fst_plain {r:Int} (h:plainB r=true):fullF r=[r]:=full_plain 3 h
theorem vowel_shut:∀i < 21,opn (4449+(i:Nat))=false:=by decide +kernel
theorem tail_shut:∀i < 28,0 < i→opn (4519+(i:Nat))=false:=by decide +kernel
theorem lead_opens:∀i < 19,opn (4352+(i:Nat))=true:=by decide +kernel
theorem shut_vowel {x:Int} (h:4449≤x) (h':x≤4469):opn x=false:=by
 have:=vowel_shut (x - 4449).toNat (by omega);rwa [show 4449+(((x - 4449).toNat:Nat):Int)=x from by omega] at this
theorem shut_tail {x:Int} (h:4520≤x) (h':x≤4546):opn x=false:=by
 have:=tail_shut (x - 4519).toNat (by omega) (by omega);rwa [show 4519+(((x - 4519).toNat:Nat):Int)=x from by omega] at this
theorem opens_lead {x:Int} (h:4352≤x) (h':x≤4370):opn x=true:=by
 have:=lead_opens (x - 4352).toNat (by omega);rwa [show 4352+(((x - 4352).toNat:Nat):Int)=x from by omega] at this
theorem full_syl {s:Int} (h0:0≤s) (h1:s≤11171):fullF (44032+s)=if s % 28=0 then [4352+s / 588,4449+s % 588 / 28] else [4352+s / 588,4449+s % 588 / 28,4519+s % 28]:=by
 by_cases hz:s % 28=0
 ·rw [if_pos hz];exact full_open 2 h0 h1 hz
 ·rw [if_neg hz];exact full_closed 1 h0 h1 hz
theorem opn_syl {s:Int} (h0:0≤s) (h1:s≤11171):opn (44032+s)=true:=by
 have hl:=opens_lead (x:=4352+s / 588) (by omega) (by omega)
 have hp:=plain_lead (x:=4352+s / 588) (by omega) (by omega)
 have e:fstF (44032+s)=4352+s / 588:=by
  rw [fstF,full_syl h0 h1]
  split <;> rfl
 have e2:fstF (4352+s / 588)=4352+s / 588:=by rw [fstF,fst_plain hp];rfl
 rw [opn,e]
 rw [opn,e2] at hl
 exact hl
theorem bottom (r:Int):okB r=true:=by
 refine kinds (fun r=>okB r=true) (fun r h=>?_) (by decide +kernel) (fun s h0 h1=>?_) (by decide +kernel) r
 ·unfold okB
  rw [fst_plain h]
  simp [plain_pair h]
 ·have a1:=plain_lead (x:=4352+s / 588) (by omega) (by omega)
  have a2:=plain_vowel (x:=4449+s % 588 / 28) (by omega) (by omega)
  have b1:=opens_lead (x:=4352+s / 588) (by omega) (by omega)
  have b2:=shut_vowel (x:=4449+s % 588 / 28) (by omega) (by omega)
  unfold okB
  rw [opn_syl h0 h1,full_syl h0 h1]
  by_cases hz:s % 28=0
  ·rw [if_pos hz]
   simp [plain_pair a1,plain_pair a2,b1,b2]
  ·rw [if_neg hz]
   have a3:=plain_tail (x:=4519+s % 28) (by omega) (by omega)
   have b3:=shut_tail (x:=4519+s % 28) (by omega) (by omega)
   simp [plain_pair a1,plain_pair a2,plain_pair a3,b1,b2,b3]
theorem bottom_parts (r:Int):1≤(fullF r).length∧(fullF r).length≤3∧(∀x∈fullF r,(pairF x).2.2=0)∧(∀x∈(fullF r).tail,opn x=false)∧opn ((fullF r).headD 0)=opn r:=by
 have h:=bottom r
 simp only [okB,Bool.and_eq_true,decide_eq_true_eq,List.all_eq_true,beq_iff_eq,Bool.not_eq_true'] at h
 obtain ⟨⟨⟨⟨h1,h2⟩,h3⟩,h4⟩,h5⟩:=h
 exact ⟨h1,h2,h3,h4,h5⟩
end Go.Proofs.YtdngaddggcmjgaaDoor.Ucd
namespace Go.Proofs.YtdngaddggcmjgaaDoor.Ucd
open Go.RowKit Utf
def gF0:List (Int × Int):=[(65,90),(192,214),(216,222),(913,929),(931,937),(1040,1071)]
def gF1:List (Int × Int):=[(256,302),(306,310),(330,374),(7680,7828)]
def gF2:List (Int × Int):=[(313,327),(377,381)]
def ftT:List (Int × Int):=[(181,956),(376,255),(383,115),(837,953),(902,940),(962,963),(8486,969),(8490,107),(8491,229)]
def tab:List (Int × Int)→Int→Int
 | [],r=>r
 | x :: t,r=>if r=x.1 then x.2 else tab t r
def rfoldF (r:Int):List Int :=
 if anyB r gF0=true then [r+32] else if inB r 1024 1039=true then [r+80] else if r % 2=0∧anyB r gF1=true then [r+1] else if ¬r % 2=0∧anyB r gF2=true then [r+1]
 else if r=223∨r=7838 then [115,115] else if r=304 then [105,775] else [tab ftT r]
theorem shf_out {r:Int}:∀{rows:List (Int × Int × Int × Int)},(∀x∈rows,¬(x.1≤r∧r≤x.2.1))→shf rows r=r:=by
 intro rows
 induction rows with
 | nil=>intro _;rfl
 | cons x t ih =>
  intro h
  have h0:=h x (by simp)
  rw [shf,if_neg (fun hh=>h0 ⟨hh.1,hh.2.1⟩),ih fun y hy=>h y (by simp [hy])]
def specF:List Int:=[223,7838,304,215,930,181,376,383,837,902,962,8486,8490,8491]
theorem rf_rows:∀x∈shRows,∀i < 150,x.1+(i:Nat)≤x.2.1→rfoldF (x.1+(i:Nat))=foldF (x.1+(i:Nat)):=by decide +kernel
theorem rf_spec:∀r∈specF,rfoldF r=foldF r:=by decide +kernel
theorem rf_len:∀x∈shRows,x.2.1 < x.1+150:=by decide +kernel
theorem any_no {r:Int} {l:List (Int × Int)} (h:∀x∈l,¬(x.1≤r∧r≤x.2)):anyB r l=false:=by
 simp only [anyB,List.any_eq_false]
 intro x hx
 rw [Bool.not_eq_true]
 exact decide_eq_false (h x hx)
theorem rf_in0:∀x∈gF0,∃y∈shRows,y.1≤x.1∧x.2≤y.2.1:=by decide +kernel
theorem rf_in1:∀x∈gF1,∃y∈shRows,y.1≤x.1∧x.2≤y.2.1:=by decide +kernel
theorem rf_in2:∀x∈gF2,∃y∈shRows,y.1≤x.1∧x.2≤y.2.1:=by decide +kernel
theorem rf_in3:∃y∈shRows,y.1≤1024∧1039≤y.2.1:=by decide +kernel
theorem rfold_eq (r:Int):rfoldF r=foldF r:=by
 by_cases hs:r∈specF
 ·exact rf_spec r hs
 by_cases hr:∃y∈shRows,y.1≤r∧r≤y.2.1
 ·obtain ⟨y,hy,ha,hb⟩:=hr
  have hl:=rf_len y hy
  have:=rf_rows y hy (r - y.1).toNat (by omega) (by omega)
  rwa [show y.1+(((r - y.1).toNat:Nat):Int)=r from by omega] at this
 ·have h2:∀x∈shRows,¬(x.1≤r∧r≤x.2.1):=fun y hy h=>hr ⟨y,hy,h⟩
  have n0:anyB r gF0=false:=any_no fun x hx h=>by obtain ⟨y,hy,a,b⟩:=rf_in0 x hx;exact h2 y hy ⟨by omega,by omega⟩
  have n1:anyB r gF1=false:=any_no fun x hx h=>by obtain ⟨y,hy,a,b⟩:=rf_in1 x hx;exact h2 y hy ⟨by omega,by omega⟩
  have n2:anyB r gF2=false:=any_no fun x hx h=>by obtain ⟨y,hy,a,b⟩:=rf_in2 x hx;exact h2 y hy ⟨by omega,by omega⟩
  have n3:inB r 1024 1039=false:=by
   unfold inB
   rw [decide_eq_false]
   intro h
   obtain ⟨y,hy,a,b⟩:=rf_in3
   exact h2 y hy ⟨by omega,by omega⟩
  simp only [specF,List.mem_cons,List.not_mem_nil,or_false,not_or] at hs
  have e1:foldF r=[r]:=by
   unfold foldF
   rw [if_neg (by omega),if_neg (by omega)]
   unfold foldA
   rw [shf_out h2]
   repeat rw [if_neg (by omega)]
  have e2:tab ftT r=r:=by
   simp only [ftT,tab]
   repeat rw [if_neg (by omega)]
  rw [e1,rfoldF,if_neg (by rw [n0];decide),if_neg (by rw [n3];decide),if_neg (fun h=>by rw [n1] at h;exact absurd h.2 (by decide)),if_neg (fun h=>by rw [n2] at h;exact absurd h.2 (by decide)),if_neg (by omega),if_neg (by omega),e2]
theorem any_le {r:Int} {l:List (Int × Int)} (h:anyB r l=true) {B:Int} (hb:∀x∈l,x.2≤B):r≤B:=by
 obtain ⟨x,hx,e⟩:=List.any_eq_true.1 h
 have:=inB_yes e
 have:=hb x hx
 omega
def NewB (w:World) (xs:List Int) (e:Ending) (w':World):Prop:=∃A c,e=.returned (.slice A xs.length c)∧xs.length≤c∧c≤9223372036854775807∧Rd w' w'.heap.size A (nums xs)∧Below w.heap.size w w'∧∀g o,A=some ⟨g,o,none⟩→w.heap.size≤g
theorem newB_made (w u:World) (hb:Below w.heap.size w u) (xs:List Int) (n:Nat) (hn:xs.length=n) (h:n≤100):NewB w xs (.returned (.slice (some ⟨u.heap.size,0,none⟩) n n)) (u.alloc (.cells (nums xs).toArray 21)):=by
 subst hn
 exact ⟨_,_,rfl,Nat.le_refl _,by omega,(rd_new u _ (nums xs) _ rfl).more (by simp),hb.alloc hb.size _,fun g o h=>by injection h with h;injection h with h;have:=hb.size;omega⟩
theorem new_one (w:World) (x:Int):NewB w [x] (.returned (.slice (some ⟨w.heap.size,0,none⟩) 1 1)) (w.alloc (.cells #[.int .i32 x] 21)):=newB_made w w (Below.refl _ _) [x] 1 rfl (by omega)
theorem new_two (w:World) (x y:Int):NewB w [x,y] (.returned (.slice (some ⟨w.heap.size,0,none⟩) 2 2)) (w.alloc (.cells #[.int .i32 x,.int .i32 y] 21)):=newB_made w w (Below.refl _ _) [x,y] 2 rfl (by omega)
theorem NewB.cast {w:World} {xs ys:List Int} {e:Ending} {w':World} (h:NewB w xs e w') (he:ys=xs):NewB w ys e w':=he ▸ h
set_option maxRecDepth 100000 in
set_option maxHeartbeats 16000000 in
theorem rfold_even (r:Int) (w:World) (h0:0≤r) (h2:r≤2147483647) (hp:r % 2=0):Calls Tryd.prog 24 #[.int .i32 r] w (NewB w (rfoldF r)):=by
 have HP:=Lib.hid hp
 have p0:(r % 2 == 0)=true:=by simpa using hp
 have p1:(r % 2 == 1)=false:=by simp;omega
 clear hp
 go_enter Tryd.func24,Tryd.ntmps24
 go_upto_region 2 with (go_at_call 40;refine (in_any _ _ _ _).mono ?_;rintro e w' ⟨rfl,rfl⟩)
 go_cut [14] (fun s wx=>∃b:Bool,s=.bool b∧Hid (anyB r gF0=b)∧Hid (w=wx))
 case first=>as_aux_lemma =>
  go_wp2_with (go_at_call 40;refine (in_any _ _ _ _).mono ?_;rintro e w' ⟨rfl,rfl⟩)
  all_goals go_meet
  all_goals exact ⟨_,rfl,Lib.hid (by simp [anyB,gF0, *]),Lib.hid rfl⟩
 case rest =>
  obtain ⟨b0,rfl,Hb0,hw⟩:=hcut
  obtain rfl:=hw.out
  clear hw
  cases b0 with
  | true =>
   have hle:r≤1071:=any_le Hb0.out (by decide)
   have HE:=Lib.hid (show rfoldF r=[r+32] by rw [rfoldF,if_pos Hb0.out])
   go_wp2
   go_ret
   exact (new_one w (r+32)).cast HE.out
  | false =>
   obtain ⟨b1,hb1⟩:∃b,inB r 1024 1039=b:=⟨_,rfl⟩
   have Hb1:=Lib.hid hb1
   cases b1 with
   | true =>
    have hle:r≤1039:=(inB_yes hb1).2
    have HE:=Lib.hid (show rfoldF r=[r+80] by rw [rfoldF,if_neg (by rw [Hb0.out];decide),if_pos Hb1.out])
    go_wp2_with (go_at_call 40;refine (in_any _ _ _ _).mono ?_;rintro e w' ⟨rfl,rfl⟩)
    go_ret
    exact (new_one w (r+80)).cast HE.out
   | false =>
    go_upto_region 6 with (go_at_call 40;refine (in_any _ _ _ _).mono ?_;rintro e w' ⟨rfl,rfl⟩)
    go_cut [46] (fun s wx=>∃b:Bool,s=.bool b∧Hid (anyB r gF1=b)∧Hid (w=wx))
    case first=>as_aux_lemma =>
     go_wp2_with (go_at_call 40;refine (in_any _ _ _ _).mono ?_;rintro e w' ⟨rfl,rfl⟩)
     all_goals go_meet
     all_goals exact ⟨_,rfl,Lib.hid (by simp [anyB,gF1, *]),Lib.hid rfl⟩
    case rest =>
     obtain ⟨b2,rfl,Hb2,hw⟩:=hcut
     obtain rfl:=hw.out
     clear hw
     cases b2 with
     | true =>
      have hle:r≤7828:=any_le Hb2.out (by decide)
      have HE:=Lib.hid (show rfoldF r=[r+1] by rw [rfoldF,if_neg (by rw [Hb0.out];decide),if_neg (by rw [Hb1.out];decide),if_pos ⟨HP.out,Hb2.out⟩])
      go_wp2
      go_ret
      exact (new_one w (r+1)).cast HE.out
     | false =>
      have HR:=Lib.hid (show rfoldF r=if r=223∨r=7838 then [115,115] else if r=304 then [105,775] else [tab ftT r] by rw [rfoldF,if_neg (by rw [Hb0.out];decide),if_neg (by rw [Hb1.out];decide),if_neg (fun h=>by rw [Hb2.out] at h;exact absurd h.2 (by decide)),if_neg (fun h=>h.1 HP.out)])
      by_cases k1:r=223
      ·have HE:=Lib.hid (HR.out.trans (if_pos (.inl k1)))
       have k1':(r == 223)=true:=by simpa using k1
       clear k1
       go_wp2_with (go_at_call 40;refine (in_any _ _ _ _).mono ?_;rintro e w' ⟨rfl,rfl⟩)
       go_ret
       exact (new_two w 115 115).cast HE.out
      by_cases k2:r=7838
      ·have HE:=Lib.hid (HR.out.trans (if_pos (.inr k2)))
       have k1':(r == 223)=false:=by simpa using k1
       have k2':(r == 7838)=true:=by simpa using k2
       clear k1 k2
       go_wp2_with (go_at_call 40;refine (in_any _ _ _ _).mono ?_;rintro e w' ⟨rfl,rfl⟩)
       go_ret
       exact (new_two w 115 115).cast HE.out
      by_cases k3:r=304
      ·have HE:=Lib.hid (HR.out.trans ((if_neg (by omega)).trans (if_pos k3)))
       have k1':(r == 223)=false:=by simpa using k1
       have k2':(r == 7838)=false:=by simpa using k2
       have k3':(r == 304)=true:=by simpa using k3
       clear k1 k2 k3
       go_wp2_with (go_at_call 40;refine (in_any _ _ _ _).mono ?_;rintro e w' ⟨rfl,rfl⟩)
       go_ret
       exact (new_two w 105 775).cast HE.out
      have HE:=Lib.hid (HR.out.trans ((if_neg (by omega)).trans (if_neg k3)))
      have k1':(r == 223)=false:=by simpa using k1
      have k2':(r == 7838)=false:=by simpa using k2
      have k3':(r == 304)=false:=by simpa using k3
      clear k1 k2 k3
      go_wp2_with (go_at_call 40;refine (in_any _ _ _ _).mono ?_;rintro e w' ⟨rfl,rfl⟩)
      have hW:∃W,W=((w.alloc (.cells #[.int .i32 181,.int .i32 376,.int .i32 383,.int .i32 837,.int .i32 902,.int .i32 962,.int .i32 8486,.int .i32 8490,.int .i32 8491] 21)).alloc (.cells #[.int .i32 956,.int .i32 255,.int .i32 115,.int .i32 953,.int .i32 940,.int .i32 963,.int .i32 969,.int .i32 107,.int .i32 229] 21)):=⟨_,rfl⟩
      obtain ⟨W,hW⟩:=hW
      rw [←hW]
      have B1:Blk W w.heap.size 21 (nums (ftT.map (·.1))):=by rw [hW];exact (Blk.new w _ (nums (ftT.map (·.1)))).alloc _
      have B2:Blk W (w.heap.size+1) 21 (nums (ftT.map (·.2))):=by
       have:=Blk.new (w.alloc (.cells (nums (ftT.map (·.1))).toArray 21)) 21 (nums (ftT.map (·.2)))
       rw [World.size_alloc] at this
       rw [hW];exact this
      have BW:Below w.heap.size w W:=by rw [hW];exact ((Below.refl _ _).alloc (Nat.le_refl _) _).alloc (by simp) _
      have HB1:=Lib.hid B1;have HB2:=Lib.hid B2;have HBW:=Lib.hid BW
      clear hW B1 B2 BW k1' k2' k3' p0 p1
      go_loop [7] (fun i=>∃k:Nat,k≤9∧i=.int .i64 k∧Hid (tab (ftT.drop k) r=tab ftT r)) (fun i=>9 - (intOf i).toNat)
      case atStart=>exact ⟨0,Nat.zero_le _,rfl,Lib.hid rfl⟩
      case round =>
       obtain ⟨k,hk,rfl,H⟩:=hrel
       by_cases hlt:k < 9
       ·have hl:k < ftT.length:=hlt
        have c1:W.cell? ⟨w.heap.size,k,none⟩=some (.int .i32 (ftT[k]'hl).1):=by
         rw [HB1.out.cell k,nums_get (by simpa using hl)];simp
        have c2:W.cell? ⟨w.heap.size+1,k,none⟩=some (.int .i32 (ftT[k]'hl).2):=by
         rw [HB2.out.cell k,nums_get (by simpa using hl)];simp
        have hd:tab (ftT.drop k) r=if r=(ftT[k]'hl).1 then (ftT[k]'hl).2 else tab (ftT.drop (k+1)) r:=by
         rw [List.drop_eq_getElem_cons hl];rfl
        generalize ftT[k]'hl=row at c1 c2 hd
        obtain ⟨x,y⟩:=row
        dsimp only at c1 c2 hd
        have HD:=Lib.hid hd
        clear hd hl
        by_cases hc:r=x
        ·have HC:=Lib.hid hc
         have hc':(r == x)=true:=by simpa using hc
         clear hc
         go_wp2
         go_ret
         exact (newB_made w W HBW.out [y] 1 rfl (by omega)).cast (by rw [HE.out,←H.out,HD.out,if_pos HC.out])
        ·have HC:=Lib.hid hc
         have hc':(r == x)=false:=by simpa using hc
         clear hc
         go_wp2
         go_round
         case rel=>exact ⟨k+1,by omega,by go_num,Lib.hid (by rw [←H.out,HD.out,if_neg HC.out])⟩
         case measure=>simp [intOf];omega
       ·obtain rfl:k=9:=by omega
        go_wp2
        go_ret
        exact (newB_made w W HBW.out [r] 1 rfl (by omega)).cast (by rw [HE.out,←H.out];rfl)
set_option maxRecDepth 100000 in
set_option maxHeartbeats 16000000 in
theorem rfold_odd (r:Int) (w:World) (h0:0≤r) (h2:r≤2147483647) (hp:¬r % 2=0):Calls Tryd.prog 24 #[.int .i32 r] w (NewB w (rfoldF r)):=by
 have HP:=Lib.hid hp
 have p0:(r % 2 == 0)=false:=by simpa using hp
 have p1:(r % 2 == 1)=true:=by simp;omega
 clear hp
 go_enter Tryd.func24,Tryd.ntmps24
 go_upto_region 2 with (go_at_call 40;refine (in_any _ _ _ _).mono ?_;rintro e w' ⟨rfl,rfl⟩)
 go_cut [14] (fun s wx=>∃b:Bool,s=.bool b∧Hid (anyB r gF0=b)∧Hid (w=wx))
 case first=>as_aux_lemma =>
  go_wp2_with (go_at_call 40;refine (in_any _ _ _ _).mono ?_;rintro e w' ⟨rfl,rfl⟩)
  all_goals go_meet
  all_goals exact ⟨_,rfl,Lib.hid (by simp [anyB,gF0, *]),Lib.hid rfl⟩
 case rest =>
  obtain ⟨b0,rfl,Hb0,hw⟩:=hcut
  obtain rfl:=hw.out
  clear hw
  cases b0 with
  | true =>
   have hle:r≤1071:=any_le Hb0.out (by decide)
   have HE:=Lib.hid (show rfoldF r=[r+32] by rw [rfoldF,if_pos Hb0.out])
   go_wp2
   go_ret
   exact (new_one w (r+32)).cast HE.out
  | false =>
   obtain ⟨b1,hb1⟩:∃b,inB r 1024 1039=b:=⟨_,rfl⟩
   have Hb1:=Lib.hid hb1
   cases b1 with
   | true =>
    have hle:r≤1039:=(inB_yes hb1).2
    have HE:=Lib.hid (show rfoldF r=[r+80] by rw [rfoldF,if_neg (by rw [Hb0.out];decide),if_pos Hb1.out])
    go_wp2_with (go_at_call 40;refine (in_any _ _ _ _).mono ?_;rintro e w' ⟨rfl,rfl⟩)
    go_ret
    exact (new_one w (r+80)).cast HE.out
   | false =>
    go_upto_region 8 with (go_at_call 40;refine (in_any _ _ _ _).mono ?_;rintro e w' ⟨rfl,rfl⟩)
    go_cut [67] (fun s wx=>∃b:Bool,s=.bool b∧Hid (anyB r gF2=b)∧Hid (w=wx))
    case first=>as_aux_lemma =>
     go_wp2_with (go_at_call 40;refine (in_any _ _ _ _).mono ?_;rintro e w' ⟨rfl,rfl⟩)
     all_goals go_meet
     all_goals exact ⟨_,rfl,Lib.hid (by simp [anyB,gF2, *]),Lib.hid rfl⟩
    case rest =>
     obtain ⟨b2,rfl,Hb2,hw⟩:=hcut
     obtain rfl:=hw.out
     clear hw
     cases b2 with
     | true =>
      have hle:r≤381:=any_le Hb2.out (by decide)
      have HE:=Lib.hid (show rfoldF r=[r+1] by rw [rfoldF,if_neg (by rw [Hb0.out];decide),if_neg (by rw [Hb1.out];decide),if_neg (fun h=>HP.out h.1),if_pos ⟨HP.out,Hb2.out⟩])
      go_wp2
      go_ret
      exact (new_one w (r+1)).cast HE.out
     | false =>
      have HR:=Lib.hid (show rfoldF r=if r=223∨r=7838 then [115,115] else if r=304 then [105,775] else [tab ftT r] by rw [rfoldF,if_neg (by rw [Hb0.out];decide),if_neg (by rw [Hb1.out];decide),if_neg (fun h=>HP.out h.1),if_neg (fun h=>by rw [Hb2.out] at h;exact absurd h.2 (by decide))])
      by_cases k1:r=223
      ·have HE:=Lib.hid (HR.out.trans (if_pos (.inl k1)))
       have k1':(r == 223)=true:=by simpa using k1
       clear k1
       go_wp2_with (go_at_call 40;refine (in_any _ _ _ _).mono ?_;rintro e w' ⟨rfl,rfl⟩)
       go_ret
       exact (new_two w 115 115).cast HE.out
      by_cases k2:r=7838
      ·have HE:=Lib.hid (HR.out.trans (if_pos (.inr k2)))
       have k1':(r == 223)=false:=by simpa using k1
       have k2':(r == 7838)=true:=by simpa using k2
       clear k1 k2
       go_wp2_with (go_at_call 40;refine (in_any _ _ _ _).mono ?_;rintro e w' ⟨rfl,rfl⟩)
       go_ret
       exact (new_two w 115 115).cast HE.out
      by_cases k3:r=304
      ·have HE:=Lib.hid (HR.out.trans ((if_neg (by omega)).trans (if_pos k3)))
       have k1':(r == 223)=false:=by simpa using k1
       have k2':(r == 7838)=false:=by simpa using k2
       have k3':(r == 304)=true:=by simpa using k3
       clear k1 k2 k3
       go_wp2_with (go_at_call 40;refine (in_any _ _ _ _).mono ?_;rintro e w' ⟨rfl,rfl⟩)
       go_ret
       exact (new_two w 105 775).cast HE.out
      have HE:=Lib.hid (HR.out.trans ((if_neg (by omega)).trans (if_neg k3)))
      have k1':(r == 223)=false:=by simpa using k1
      have k2':(r == 7838)=false:=by simpa using k2
      have k3':(r == 304)=false:=by simpa using k3
      clear k1 k2 k3
      go_wp2_with (go_at_call 40;refine (in_any _ _ _ _).mono ?_;rintro e w' ⟨rfl,rfl⟩)
      have hW:∃W,W=((w.alloc (.cells #[.int .i32 181,.int .i32 376,.int .i32 383,.int .i32 837,.int .i32 902,.int .i32 962,.int .i32 8486,.int .i32 8490,.int .i32 8491] 21)).alloc (.cells #[.int .i32 956,.int .i32 255,.int .i32 115,.int .i32 953,.int .i32 940,.int .i32 963,.int .i32 969,.int .i32 107,.int .i32 229] 21)):=⟨_,rfl⟩
      obtain ⟨W,hW⟩:=hW
      rw [←hW]
      have B1:Blk W w.heap.size 21 (nums (ftT.map (·.1))):=by rw [hW];exact (Blk.new w _ (nums (ftT.map (·.1)))).alloc _
      have B2:Blk W (w.heap.size+1) 21 (nums (ftT.map (·.2))):=by
       have:=Blk.new (w.alloc (.cells (nums (ftT.map (·.1))).toArray 21)) 21 (nums (ftT.map (·.2)))
       rw [World.size_alloc] at this
       rw [hW];exact this
      have BW:Below w.heap.size w W:=by rw [hW];exact ((Below.refl _ _).alloc (Nat.le_refl _) _).alloc (by simp) _
      have HB1:=Lib.hid B1;have HB2:=Lib.hid B2;have HBW:=Lib.hid BW
      clear hW B1 B2 BW k1' k2' k3' p0 p1
      go_loop [7] (fun i=>∃k:Nat,k≤9∧i=.int .i64 k∧Hid (tab (ftT.drop k) r=tab ftT r)) (fun i=>9 - (intOf i).toNat)
      case atStart=>exact ⟨0,Nat.zero_le _,rfl,Lib.hid rfl⟩
      case round =>
       obtain ⟨k,hk,rfl,H⟩:=hrel
       by_cases hlt:k < 9
       ·have hl:k < ftT.length:=hlt
        have c1:W.cell? ⟨w.heap.size,k,none⟩=some (.int .i32 (ftT[k]'hl).1):=by
         rw [HB1.out.cell k,nums_get (by simpa using hl)];simp
        have c2:W.cell? ⟨w.heap.size+1,k,none⟩=some (.int .i32 (ftT[k]'hl).2):=by
         rw [HB2.out.cell k,nums_get (by simpa using hl)];simp
        have hd:tab (ftT.drop k) r=if r=(ftT[k]'hl).1 then (ftT[k]'hl).2 else tab (ftT.drop (k+1)) r:=by
         rw [List.drop_eq_getElem_cons hl];rfl
        generalize ftT[k]'hl=row at c1 c2 hd
        obtain ⟨x,y⟩:=row
        dsimp only at c1 c2 hd
        have HD:=Lib.hid hd
        clear hd hl
        by_cases hc:r=x
        ·have HC:=Lib.hid hc
         have hc':(r == x)=true:=by simpa using hc
         clear hc
         go_wp2
         go_ret
         exact (newB_made w W HBW.out [y] 1 rfl (by omega)).cast (by rw [HE.out,←H.out,HD.out,if_pos HC.out])
        ·have HC:=Lib.hid hc
         have hc':(r == x)=false:=by simpa using hc
         clear hc
         go_wp2
         go_round
         case rel=>exact ⟨k+1,by omega,by go_num,Lib.hid (by rw [←H.out,HD.out,if_neg HC.out])⟩
         case measure=>simp [intOf];omega
       ·obtain rfl:k=9:=by omega
        go_wp2
        go_ret
        exact (newB_made w W HBW.out [r] 1 rfl (by omega)).cast (by rw [HE.out,←H.out];rfl)
theorem lo_pos0:∀x∈gF0,0≤x.1:=by decide
theorem lo_pos1:∀x∈gF1,0≤x.1:=by decide
theorem lo_pos2:∀x∈gF2,0≤x.1:=by decide
theorem tmod_neg {r:Int} (h:r < 0):(r.tmod 2 == 1)=false:=by
 obtain ⟨n,rfl⟩:∃n:Nat,r=-(n:Int):=⟨(-r).toNat,by omega⟩
 rw [Int.neg_tmod,show ((n:Int)).tmod 2=((n % 2:Nat):Int) from rfl]
 simp
 omega
set_option maxRecDepth 100000 in
set_option maxHeartbeats 16000000 in
theorem rfold_neg (r:Int) (w:World) (h0:r < 0) (h1:-2147483648≤r):Calls Tryd.prog 24 #[.int .i32 r] w (NewB w (rfoldF r)):=by
 have hno:∀lo hi:Int,0≤lo→inB r lo hi=false:=fun lo hi h=>by unfold inB;rw [decide_eq_false];omega
 have i0:inB r 65 90=false:=hno _ _ (by omega)
 have i1:inB r 192 214=false:=hno _ _ (by omega)
 have i2:inB r 216 222=false:=hno _ _ (by omega)
 have i3:inB r 913 929=false:=hno _ _ (by omega)
 have i4:inB r 931 937=false:=hno _ _ (by omega)
 have i5:inB r 1040 1071=false:=hno _ _ (by omega)
 have i6:inB r 1024 1039=false:=hno _ _ (by omega)
 have i7:inB r 256 302=false:=hno _ _ (by omega)
 have i8:inB r 306 310=false:=hno _ _ (by omega)
 have i9:inB r 330 374=false:=hno _ _ (by omega)
 have i10:inB r 7680 7828=false:=hno _ _ (by omega)
 have i11:inB r 313 327=false:=hno _ _ (by omega)
 have i12:inB r 377 381=false:=hno _ _ (by omega)
 have a0:anyB r gF0=false:=any_no fun x hx h=>absurd (lo_pos0 x hx) (by omega)
 have a1:anyB r gF1=false:=any_no fun x hx h=>absurd (lo_pos1 x hx) (by omega)
 have a2:anyB r gF2=false:=any_no fun x hx h=>absurd (lo_pos2 x hx) (by omega)
 have HE:=Lib.hid (show rfoldF r=[tab ftT r] by rw [rfoldF,if_neg (by rw [a0];decide),if_neg (by rw [i6];decide),if_neg (fun h=>by rw [a1] at h;exact absurd h.2 (by decide)),if_neg (fun h=>by rw [a2] at h;exact absurd h.2 (by decide)),if_neg (by omega),if_neg (by omega)])
 have p1:=tmod_neg h0
 have k1':(r == 223)=false:=by simp;omega
 have k2':(r == 7838)=false:=by simp;omega
 have k3':(r == 304)=false:=by simp;omega
 clear hno a0 a1 a2
 by_cases hp:(r.tmod 2 == 0)=true
 all_goals
  try rw [Bool.not_eq_true] at hp
  go_enter Tryd.func24,Tryd.ntmps24
  go_wp2_with (go_at_call 40;refine (in_any _ _ _ _).mono ?_;rintro e w' ⟨rfl,rfl⟩)
  have hW:∃W,W=((w.alloc (.cells #[.int .i32 181,.int .i32 376,.int .i32 383,.int .i32 837,.int .i32 902,.int .i32 962,.int .i32 8486,.int .i32 8490,.int .i32 8491] 21)).alloc (.cells #[.int .i32 956,.int .i32 255,.int .i32 115,.int .i32 953,.int .i32 940,.int .i32 963,.int .i32 969,.int .i32 107,.int .i32 229] 21)):=⟨_,rfl⟩
  obtain ⟨W,hW⟩:=hW
  rw [←hW]
  have B1:Blk W w.heap.size 21 (nums (ftT.map (·.1))):=by rw [hW];exact (Blk.new w _ (nums (ftT.map (·.1)))).alloc _
  have B2:Blk W (w.heap.size+1) 21 (nums (ftT.map (·.2))):=by
   have:=Blk.new (w.alloc (.cells (nums (ftT.map (·.1))).toArray 21)) 21 (nums (ftT.map (·.2)))
   rw [World.size_alloc] at this
   rw [hW];exact this
  have BW:Below w.heap.size w W:=by rw [hW];exact ((Below.refl _ _).alloc (Nat.le_refl _) _).alloc (by simp) _
  have HB1:=Lib.hid B1;have HB2:=Lib.hid B2;have HBW:=Lib.hid BW
  clear hW B1 B2 BW
  go_loop [7] (fun i=>∃k:Nat,k≤9∧i=.int .i64 k∧Hid (tab (ftT.drop k) r=tab ftT r)) (fun i=>9 - (intOf i).toNat)
  case atStart=>exact ⟨0,Nat.zero_le _,rfl,Lib.hid rfl⟩
  case round =>
   obtain ⟨k,hk,rfl,H⟩:=hrel
   by_cases hlt:k < 9
   ·have hl:k < ftT.length:=hlt
    have c1:W.cell? ⟨w.heap.size,k,none⟩=some (.int .i32 (ftT[k]'hl).1):=by
     rw [HB1.out.cell k,nums_get (by simpa using hl)];simp
    have c2:W.cell? ⟨w.heap.size+1,k,none⟩=some (.int .i32 (ftT[k]'hl).2):=by
     rw [HB2.out.cell k,nums_get (by simpa using hl)];simp
    have hd:tab (ftT.drop k) r=if r=(ftT[k]'hl).1 then (ftT[k]'hl).2 else tab (ftT.drop (k+1)) r:=by
     rw [List.drop_eq_getElem_cons hl];rfl
    generalize ftT[k]'hl=row at c1 c2 hd
    obtain ⟨x,y⟩:=row
    dsimp only at c1 c2 hd
    have HD:=Lib.hid hd
    clear hd hl
    by_cases hc:r=x
    ·have HC:=Lib.hid hc
     have hc':(r == x)=true:=by simpa using hc
     clear hc
     go_wp2
     go_ret
     exact (newB_made w W HBW.out [y] 1 rfl (by omega)).cast (by rw [HE.out,←H.out,HD.out,if_pos HC.out])
    ·have HC:=Lib.hid hc
     have hc':(r == x)=false:=by simpa using hc
     clear hc
     go_wp2
     go_round
     case rel=>exact ⟨k+1,by omega,by go_num,Lib.hid (by rw [←H.out,HD.out,if_neg HC.out])⟩
     case measure=>simp [intOf];omega
   ·obtain rfl:k=9:=by omega
    go_wp2
    go_ret
    exact (newB_made w W HBW.out [r] 1 rfl (by omega)).cast (by rw [HE.out,←H.out];rfl)
theorem rfold_any (r:Int) (w:World) (h1:-2147483648≤r) (h2:r≤2147483647):Calls Tryd.prog 24 #[.int .i32 r] w (NewB w (foldF r)):=by
 rw [←rfold_eq]
 by_cases h0:0≤r
 ·by_cases hp:r % 2=0
  ·exact rfold_even r w h0 h2 hp
  ·exact rfold_odd r w h0 h2 hp
 ·exact rfold_neg r w (by omega) h1
end Go.Proofs.YtdngaddggcmjgaaDoor.Ucd
