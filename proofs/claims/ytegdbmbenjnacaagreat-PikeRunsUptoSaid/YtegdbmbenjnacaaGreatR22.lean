/-
  Texts of stage 7, part 22.
-/
import Derived.LoopTactic
import Derived.Laws.RangeString
import Derived.Laws.RangeAny
import Derived.BigQuiet
import Derived.Deep.QuietTactic
import Derived.Deep.RegionHeld3
import Derived.IntWalk
import Derived.Test.YtegdbmbenjnacaaGreatR8
import Derived.Test.YtegdbmbenjnacaaGreatR20
import Derived.Test.YtegdbmbenjnacaaGreatR21
namespace Go.Proofs.YtegdbmbenjnacaaGreat.Ucd
open Go.RowKit Utf
theorem infoI32:(Tryz.prog.info? 21).map (fun i=>(i.zero,i.size,i.bytes))=some (some (.int .i32 0),1,4):=by kernel_rfl
theorem rd_new (u:World) (t:TypeId) (cs:List Value) (g:Nat) (hg:u.heap.size=g):Rd (u.alloc (.cells cs.toArray t)) (g+1) (some ⟨g,0,none⟩) cs:=fun _ =>
 ⟨g,0,rfl,by omega,fun j u' hu=>by subst hg;rw [Nat.zero_add,(Blk.new u t cs).cell j];exact hu⟩
theorem own_below {w w':World} {base:Nat} {e:TypeId} {size:Nat} {v:Value} {n:Nat} {xs:List Value} (h:w.ownsRow base e size v n xs) (hb:Below w.heap.size w w'):w'.ownsRow base e size v n xs :=
 h.kept (row:=none) ⟨hb.os,hb.tape,hb.output,hb.size,fun k hk _=>hb.block k hk⟩ (by cases v.ownBlock <;> simp)
def Mine (base:Nat) (w:World) (xs:List Int) (e:Ending) (w':World):Prop:=∃v,e=.returned v∧w'.ownsRow base 21 1 v xs.length (nums xs)∧Below base w w'
end Go.Proofs.YtegdbmbenjnacaaGreat.Ucd
namespace Go.Proofs.YtegdbmbenjnacaaGreat.Ucd
open Go.RowKit Utf
theorem below_iter {B:Nat} {w u:World} (h:Below B w u) (hB:B≤u.heap.size) (s:ByteArray) (k:Nat):Below B w (u.iter s k):=h.alloc hB _
def trip (p:Int × Int × Int):Value:=.tuple #[.int .i32 p.1,.int .i32 p.2.1,.int .i64 p.2.2]
def New (w:World) (xs:List Int) (e:Ending) (w':World):Prop:=∃A c,e=.returned (.slice A xs.length c)∧xs.length≤c∧c≤9223372036854775807∧Rd w' w'.heap.size A (nums xs)∧Below w.heap.size w w'
theorem own_form {w:World} {base:Nat} {e:TypeId} {size n:Nat} {v:Value} {xs:List Value} (h:w.ownsRow base e size v n xs):∃A c,v=.slice A n c∧n≤c∧c≤9223372036854775807∧Rd w w.heap.size A xs:=by
 have h2:=h.2
 rcases h2 with ⟨rfl,rfl⟩ | ⟨g,cap,cur,rfl,_,_,h1,h2,_⟩
 ·exact ⟨none,0,rfl,Nat.le_refl _,by omega,Rd.of_own h⟩
 ·exact ⟨_,cap,rfl,h1,h2,Rd.of_own h⟩
end Go.Proofs.YtegdbmbenjnacaaGreat.Ucd
namespace Go.Proofs.YtegdbmbenjnacaaGreat.Ucd
open Go.RowKit Utf
def fewT:List (Int × Int × Int × Int):=[(469,220,772,2),(470,252,772,2),(832,768,0,1),(833,769,0,1),(835,787,0,1),(836,776,769,2),(902,913,769,2),(912,970,769,2),(940,945,769,2),(943,953,769,2),(970,953,776,2),(972,959,769,2),(7691,100,775,2),(7693,100,803,2),(7777,115,775,2),(7779,115,803,2),(7785,7779,775,2),(7841,97,803,2),(7844,194,769,2),(7845,226,769,2),(7863,7841,774,2),(7865,101,803,2),(7879,7865,770,2),(8049,940,0,1),(8115,945,837,2),(8486,937,0,1),(8490,75,0,1),(8491,197,0,1),(8800,61,824,2),(12364,12363,12441,2),(12497,12495,12442,2)]
def kfind:List (Int × Int × Int × Int)→Int→Int × Int × Int
 | [],_=>(0,0,0)
 | x :: t,r=>if r=x.1 then x.2 else kfind t r
theorem kfind_no:∀{l:List (Int × Int × Int × Int)} {r:Int},(∀x∈l,r≠x.1)→kfind l r=(0,0,0):=by
 intro l
 induction l with
 | nil=>intro r _;rfl
 | cons x t ih=>intro r h;rw [kfind,if_neg (h x (by simp)),ih fun y hy=>h y (by simp [hy])]
theorem few_keys:∀x∈fewT,kfind fewT x.1=lst listRows x.1:=by decide +kernel
theorem few_lst (r:Int):kfind fewT r=lst listRows r:=by
 by_cases h:∃x∈fewT,r=x.1
 ·obtain ⟨x,hx,rfl⟩:=h
  exact few_keys x hx
 ·have hn:∀x∈fewT,r≠x.1:=fun x hx e=>h ⟨x,hx,e⟩
  rw [kfind_no hn,lst_none]
  have hk:∀y∈listRows,∃x∈fewT,x.1=y.1:=by decide +kernel
  simp only [List.any_eq_false,beq_iff_eq]
  intro y hy e
  obtain ⟨x,hx,e2⟩:=hk y hy
  exact hn x hx (by rw [e2,e])
set_option maxRecDepth 100000 in
set_option maxHeartbeats 16000000 in
theorem few_any (r:Int) (w:World):Calls Tryz.prog 155 #[.int .i32 r] w fun e w'=>e=.returned (trip (kfind fewT r))∧w=w':=by
 by_cases k0:r=469
 ·as_aux_lemma =>
  subst k0
  go_enter Tryz.func155,Tryz.ntmps155
  go_wp2
  exact bodyPost_ret (v:=.tuple #[.int .i32 220,.int .i32 772,.int .i64 2]) (by simp [results,Tryz.results155,go_sem]) rfl ⟨rfl,rfl⟩
 by_cases k1:r=470
 ·as_aux_lemma =>
  subst k1
  go_enter Tryz.func155,Tryz.ntmps155
  go_wp2
  exact bodyPost_ret (v:=.tuple #[.int .i32 252,.int .i32 772,.int .i64 2]) (by simp [results,Tryz.results155,go_sem]) rfl ⟨rfl,rfl⟩
 by_cases k2:r=832
 ·as_aux_lemma =>
  subst k2
  go_enter Tryz.func155,Tryz.ntmps155
  go_wp2
  exact bodyPost_ret (v:=.tuple #[.int .i32 768,.int .i32 0,.int .i64 1]) (by simp [results,Tryz.results155,go_sem]) rfl ⟨rfl,rfl⟩
 by_cases k3:r=833
 ·as_aux_lemma =>
  subst k3
  go_enter Tryz.func155,Tryz.ntmps155
  go_wp2
  exact bodyPost_ret (v:=.tuple #[.int .i32 769,.int .i32 0,.int .i64 1]) (by simp [results,Tryz.results155,go_sem]) rfl ⟨rfl,rfl⟩
 by_cases k4:r=835
 ·as_aux_lemma =>
  subst k4
  go_enter Tryz.func155,Tryz.ntmps155
  go_wp2
  exact bodyPost_ret (v:=.tuple #[.int .i32 787,.int .i32 0,.int .i64 1]) (by simp [results,Tryz.results155,go_sem]) rfl ⟨rfl,rfl⟩
 by_cases k5:r=836
 ·as_aux_lemma =>
  subst k5
  go_enter Tryz.func155,Tryz.ntmps155
  go_wp2
  exact bodyPost_ret (v:=.tuple #[.int .i32 776,.int .i32 769,.int .i64 2]) (by simp [results,Tryz.results155,go_sem]) rfl ⟨rfl,rfl⟩
 by_cases k6:r=902
 ·as_aux_lemma =>
  subst k6
  go_enter Tryz.func155,Tryz.ntmps155
  go_wp2
  exact bodyPost_ret (v:=.tuple #[.int .i32 913,.int .i32 769,.int .i64 2]) (by simp [results,Tryz.results155,go_sem]) rfl ⟨rfl,rfl⟩
 by_cases k7:r=912
 ·as_aux_lemma =>
  subst k7
  go_enter Tryz.func155,Tryz.ntmps155
  go_wp2
  exact bodyPost_ret (v:=.tuple #[.int .i32 970,.int .i32 769,.int .i64 2]) (by simp [results,Tryz.results155,go_sem]) rfl ⟨rfl,rfl⟩
 by_cases k8:r=940
 ·as_aux_lemma =>
  subst k8
  go_enter Tryz.func155,Tryz.ntmps155
  go_wp2
  exact bodyPost_ret (v:=.tuple #[.int .i32 945,.int .i32 769,.int .i64 2]) (by simp [results,Tryz.results155,go_sem]) rfl ⟨rfl,rfl⟩
 by_cases k9:r=943
 ·as_aux_lemma =>
  subst k9
  go_enter Tryz.func155,Tryz.ntmps155
  go_wp2
  exact bodyPost_ret (v:=.tuple #[.int .i32 953,.int .i32 769,.int .i64 2]) (by simp [results,Tryz.results155,go_sem]) rfl ⟨rfl,rfl⟩
 by_cases k10:r=970
 ·as_aux_lemma =>
  subst k10
  go_enter Tryz.func155,Tryz.ntmps155
  go_wp2
  exact bodyPost_ret (v:=.tuple #[.int .i32 953,.int .i32 776,.int .i64 2]) (by simp [results,Tryz.results155,go_sem]) rfl ⟨rfl,rfl⟩
 by_cases k11:r=972
 ·as_aux_lemma =>
  subst k11
  go_enter Tryz.func155,Tryz.ntmps155
  go_wp2
  exact bodyPost_ret (v:=.tuple #[.int .i32 959,.int .i32 769,.int .i64 2]) (by simp [results,Tryz.results155,go_sem]) rfl ⟨rfl,rfl⟩
 by_cases k12:r=7691
 ·as_aux_lemma =>
  subst k12
  go_enter Tryz.func155,Tryz.ntmps155
  go_wp2
  exact bodyPost_ret (v:=.tuple #[.int .i32 100,.int .i32 775,.int .i64 2]) (by simp [results,Tryz.results155,go_sem]) rfl ⟨rfl,rfl⟩
 by_cases k13:r=7693
 ·as_aux_lemma =>
  subst k13
  go_enter Tryz.func155,Tryz.ntmps155
  go_wp2
  exact bodyPost_ret (v:=.tuple #[.int .i32 100,.int .i32 803,.int .i64 2]) (by simp [results,Tryz.results155,go_sem]) rfl ⟨rfl,rfl⟩
 by_cases k14:r=7777
 ·as_aux_lemma =>
  subst k14
  go_enter Tryz.func155,Tryz.ntmps155
  go_wp2
  exact bodyPost_ret (v:=.tuple #[.int .i32 115,.int .i32 775,.int .i64 2]) (by simp [results,Tryz.results155,go_sem]) rfl ⟨rfl,rfl⟩
 by_cases k15:r=7779
 ·as_aux_lemma =>
  subst k15
  go_enter Tryz.func155,Tryz.ntmps155
  go_wp2
  exact bodyPost_ret (v:=.tuple #[.int .i32 115,.int .i32 803,.int .i64 2]) (by simp [results,Tryz.results155,go_sem]) rfl ⟨rfl,rfl⟩
 by_cases k16:r=7785
 ·as_aux_lemma =>
  subst k16
  go_enter Tryz.func155,Tryz.ntmps155
  go_wp2
  exact bodyPost_ret (v:=.tuple #[.int .i32 7779,.int .i32 775,.int .i64 2]) (by simp [results,Tryz.results155,go_sem]) rfl ⟨rfl,rfl⟩
 by_cases k17:r=7841
 ·as_aux_lemma =>
  subst k17
  go_enter Tryz.func155,Tryz.ntmps155
  go_wp2
  exact bodyPost_ret (v:=.tuple #[.int .i32 97,.int .i32 803,.int .i64 2]) (by simp [results,Tryz.results155,go_sem]) rfl ⟨rfl,rfl⟩
 by_cases k18:r=7844
 ·as_aux_lemma =>
  subst k18
  go_enter Tryz.func155,Tryz.ntmps155
  go_wp2
  exact bodyPost_ret (v:=.tuple #[.int .i32 194,.int .i32 769,.int .i64 2]) (by simp [results,Tryz.results155,go_sem]) rfl ⟨rfl,rfl⟩
 by_cases k19:r=7845
 ·as_aux_lemma =>
  subst k19
  go_enter Tryz.func155,Tryz.ntmps155
  go_wp2
  exact bodyPost_ret (v:=.tuple #[.int .i32 226,.int .i32 769,.int .i64 2]) (by simp [results,Tryz.results155,go_sem]) rfl ⟨rfl,rfl⟩
 by_cases k20:r=7863
 ·as_aux_lemma =>
  subst k20
  go_enter Tryz.func155,Tryz.ntmps155
  go_wp2
  exact bodyPost_ret (v:=.tuple #[.int .i32 7841,.int .i32 774,.int .i64 2]) (by simp [results,Tryz.results155,go_sem]) rfl ⟨rfl,rfl⟩
 by_cases k21:r=7865
 ·as_aux_lemma =>
  subst k21
  go_enter Tryz.func155,Tryz.ntmps155
  go_wp2
  exact bodyPost_ret (v:=.tuple #[.int .i32 101,.int .i32 803,.int .i64 2]) (by simp [results,Tryz.results155,go_sem]) rfl ⟨rfl,rfl⟩
 by_cases k22:r=7879
 ·as_aux_lemma =>
  subst k22
  go_enter Tryz.func155,Tryz.ntmps155
  go_wp2
  exact bodyPost_ret (v:=.tuple #[.int .i32 7865,.int .i32 770,.int .i64 2]) (by simp [results,Tryz.results155,go_sem]) rfl ⟨rfl,rfl⟩
 by_cases k23:r=8049
 ·as_aux_lemma =>
  subst k23
  go_enter Tryz.func155,Tryz.ntmps155
  go_wp2
  exact bodyPost_ret (v:=.tuple #[.int .i32 940,.int .i32 0,.int .i64 1]) (by simp [results,Tryz.results155,go_sem]) rfl ⟨rfl,rfl⟩
 by_cases k24:r=8115
 ·as_aux_lemma =>
  subst k24
  go_enter Tryz.func155,Tryz.ntmps155
  go_wp2
  exact bodyPost_ret (v:=.tuple #[.int .i32 945,.int .i32 837,.int .i64 2]) (by simp [results,Tryz.results155,go_sem]) rfl ⟨rfl,rfl⟩
 by_cases k25:r=8486
 ·as_aux_lemma =>
  subst k25
  go_enter Tryz.func155,Tryz.ntmps155
  go_wp2
  exact bodyPost_ret (v:=.tuple #[.int .i32 937,.int .i32 0,.int .i64 1]) (by simp [results,Tryz.results155,go_sem]) rfl ⟨rfl,rfl⟩
 by_cases k26:r=8490
 ·as_aux_lemma =>
  subst k26
  go_enter Tryz.func155,Tryz.ntmps155
  go_wp2
  exact bodyPost_ret (v:=.tuple #[.int .i32 75,.int .i32 0,.int .i64 1]) (by simp [results,Tryz.results155,go_sem]) rfl ⟨rfl,rfl⟩
 by_cases k27:r=8491
 ·as_aux_lemma =>
  subst k27
  go_enter Tryz.func155,Tryz.ntmps155
  go_wp2
  exact bodyPost_ret (v:=.tuple #[.int .i32 197,.int .i32 0,.int .i64 1]) (by simp [results,Tryz.results155,go_sem]) rfl ⟨rfl,rfl⟩
 by_cases k28:r=8800
 ·as_aux_lemma =>
  subst k28
  go_enter Tryz.func155,Tryz.ntmps155
  go_wp2
  exact bodyPost_ret (v:=.tuple #[.int .i32 61,.int .i32 824,.int .i64 2]) (by simp [results,Tryz.results155,go_sem]) rfl ⟨rfl,rfl⟩
 by_cases k29:r=12364
 ·as_aux_lemma =>
  subst k29
  go_enter Tryz.func155,Tryz.ntmps155
  go_wp2
  exact bodyPost_ret (v:=.tuple #[.int .i32 12363,.int .i32 12441,.int .i64 2]) (by simp [results,Tryz.results155,go_sem]) rfl ⟨rfl,rfl⟩
 by_cases k30:r=12497
 ·as_aux_lemma =>
  subst k30
  go_enter Tryz.func155,Tryz.ntmps155
  go_wp2
  exact bodyPost_ret (v:=.tuple #[.int .i32 12495,.int .i32 12442,.int .i64 2]) (by simp [results,Tryz.results155,go_sem]) rfl ⟨rfl,rfl⟩
 have HF:=Lib.hid (show kfind fewT r=(0,0,0) by simp only [fewT,kfind,if_neg k0,if_neg k1,if_neg k2,if_neg k3,if_neg k4,if_neg k5,if_neg k6,if_neg k7,if_neg k8,if_neg k9,if_neg k10,if_neg k11,if_neg k12,if_neg k13,if_neg k14,if_neg k15,if_neg k16,if_neg k17,if_neg k18,if_neg k19,if_neg k20,if_neg k21,if_neg k22,if_neg k23,if_neg k24,if_neg k25,if_neg k26,if_neg k27,if_neg k28,if_neg k29,if_neg k30])
 have q0:(r == 469)=false:=by simpa using k0
 have q1:(r == 470)=false:=by simpa using k1
 have q2:(r == 832)=false:=by simpa using k2
 have q3:(r == 833)=false:=by simpa using k3
 have q4:(r == 835)=false:=by simpa using k4
 have q5:(r == 836)=false:=by simpa using k5
 have q6:(r == 902)=false:=by simpa using k6
 have q7:(r == 912)=false:=by simpa using k7
 have q8:(r == 940)=false:=by simpa using k8
 have q9:(r == 943)=false:=by simpa using k9
 have q10:(r == 970)=false:=by simpa using k10
 have q11:(r == 972)=false:=by simpa using k11
 have q12:(r == 7691)=false:=by simpa using k12
 have q13:(r == 7693)=false:=by simpa using k13
 have q14:(r == 7777)=false:=by simpa using k14
 have q15:(r == 7779)=false:=by simpa using k15
 have q16:(r == 7785)=false:=by simpa using k16
 have q17:(r == 7841)=false:=by simpa using k17
 have q18:(r == 7844)=false:=by simpa using k18
 have q19:(r == 7845)=false:=by simpa using k19
 have q20:(r == 7863)=false:=by simpa using k20
 have q21:(r == 7865)=false:=by simpa using k21
 have q22:(r == 7879)=false:=by simpa using k22
 have q23:(r == 8049)=false:=by simpa using k23
 have q24:(r == 8115)=false:=by simpa using k24
 have q25:(r == 8486)=false:=by simpa using k25
 have q26:(r == 8490)=false:=by simpa using k26
 have q27:(r == 8491)=false:=by simpa using k27
 have q28:(r == 8800)=false:=by simpa using k28
 have q29:(r == 12364)=false:=by simpa using k29
 have q30:(r == 12497)=false:=by simpa using k30
 clear k0 k1 k2 k3 k4 k5 k6 k7 k8 k9 k10 k11 k12 k13 k14 k15 k16 k17 k18 k19 k20 k21 k22 k23 k24 k25 k26 k27 k28 k29 k30
 rw [HF.out]
 go_enter Tryz.func155,Tryz.ntmps155
 go_wp2
 exact bodyPost_ret (v:=.tuple #[.int .i32 0,.int .i32 0,.int .i64 0]) (by simp [results,Tryz.results155,go_sem]) rfl ⟨rfl,rfl⟩
end Go.Proofs.YtegdbmbenjnacaaGreat.Ucd
namespace Go.Proofs.YtegdbmbenjnacaaGreat.Ucd
open Go.RowKit Utf
def okB (r:Int):Bool:=decide (1≤(fullF r).length) && decide ((fullF r).length≤3) && (fullF r).all (fun x=>(pairF x).2.2 == 0) && (fullF r).tail.all (fun x=>!opn x) && (opn ((fullF r).headD 0) == opn r)
theorem fst_plain {r:Int} (h:plainB r=true):fullF r=[r]:=full_plain 3 h
theorem vowel_shut:∀i < 21,opn (4449+(i:Nat))=false:=by decide +kernel
theorem tail_shut:∀i < 28,0 < i→opn (4519+(i:Nat))=false:=by decide +kernel
theorem lead_opens:∀i < 19,opn (4352+(i:Nat))=true:=by decide +kernel
theorem shut_vowel {x:Int} (h:4449≤x) (h':x≤4469):opn x=false:=by
 have:=vowel_shut (x - 4449).toNat (by omega);rwa [show 4449+(((x - 4449).toNat:Nat):Int)=x from by omega] at this
theorem shut_tail {x:Int} (h:4520≤x) (h':x≤4546):opn x=false:=by
 have:=tail_shut (x - 4519).toNat (by omega) (by omega);rwa [show 4519+(((x - 4519).toNat:Nat):Int)=x from by omega] at this
theorem opens_lead {x:Int} (h:4352≤x) (h':x≤4370):opn x=true:=by
 have:=lead_opens (x - 4352).toNat (by omega);rwa [show 4352+(((x - 4352).toNat:Nat):Int)=x from by omega] at this
theorem full_syl {s:Int} (h0:0≤s) (h1:s≤11171):fullF (44032+s)=if s % 28=0 then [4352+s / 588,4449+s % 588 / 28] else [4352+s / 588,4449+s % 588 / 28,4519+s % 28]:=by
 by_cases hz:s % 28=0
 ·rw [if_pos hz];exact full_open 2 h0 h1 hz
 ·rw [if_neg hz];exact full_closed 1 h0 h1 hz
theorem opn_syl {s:Int} (h0:0≤s) (h1:s≤11171):opn (44032+s)=true:=by
 have hl:=opens_lead (x:=4352+s / 588) (by omega) (by omega)
 have hp:=plain_lead (x:=4352+s / 588) (by omega) (by omega)
 have e:fstF (44032+s)=4352+s / 588:=by
  rw [fstF,full_syl h0 h1]
  split <;> rfl
 have e2:fstF (4352+s / 588)=4352+s / 588:=by rw [fstF,fst_plain hp];rfl
 rw [opn,e]
 rw [opn,e2] at hl
 exact hl
theorem bottom (r:Int):okB r=true:=by
 refine kinds (fun r=>okB r=true) (fun r h=>?_) (by decide +kernel) (fun s h0 h1=>?_) (by decide +kernel) r
 ·unfold okB
  rw [fst_plain h]
  simp [plain_pair h]
 ·have a1:=plain_lead (x:=4352+s / 588) (by omega) (by omega)
  have a2:=plain_vowel (x:=4449+s % 588 / 28) (by omega) (by omega)
  have b1:=opens_lead (x:=4352+s / 588) (by omega) (by omega)
  have b2:=shut_vowel (x:=4449+s % 588 / 28) (by omega) (by omega)
  unfold okB
  rw [opn_syl h0 h1,full_syl h0 h1]
  by_cases hz:s % 28=0
  ·rw [if_pos hz]
   simp [plain_pair a1,plain_pair a2,b1,b2]
  ·rw [if_neg hz]
   have a3:=plain_tail (x:=4519+s % 28) (by omega) (by omega)
   have b3:=shut_tail (x:=4519+s % 28) (by omega) (by omega)
   simp [plain_pair a1,plain_pair a2,plain_pair a3,b1,b2,b3]
theorem bottom_parts (r:Int):1≤(fullF r).length∧(fullF r).length≤3∧(∀x∈fullF r,(pairF x).2.2=0)∧(∀x∈(fullF r).tail,opn x=false)∧opn ((fullF r).headD 0)=opn r:=by
 have h:=bottom r
 simp only [okB,Bool.and_eq_true,decide_eq_true_eq,List.all_eq_true,beq_iff_eq,Bool.not_eq_true'] at h
 obtain ⟨⟨⟨⟨h1,h2⟩,h3⟩,h4⟩,h5⟩:=h
 exact ⟨h1,h2,h3,h4,h5⟩
end Go.Proofs.YtegdbmbenjnacaaGreat.Ucd
