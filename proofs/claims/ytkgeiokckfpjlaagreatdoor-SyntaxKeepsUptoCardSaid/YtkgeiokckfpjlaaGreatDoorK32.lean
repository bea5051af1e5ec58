/-
  Texts of stage 7, part 32.
-/
import Derived.Shelf.Strings.Search3
import Derived.Shelf.Strings.OnBuilder
import Derived.Lib.Hide
import Derived.Deep.RegionHeld3
import Derived.Test.YtkgeiokckfpjlaaGreatDoorK9
import Derived.Test.YtkgeiokckfpjlaaGreatDoorK10
namespace Go.Proofs.YtkgeiokckfpjlaaGreatDoor.Syn
open Go.Shelf Go.RowKit
open Rset (Ret)
open Sset (Tx mk_toList)
set_option maxRecDepth 100000
def strCon_ren:Go.Shelf.Ren:=⟨fun | 144=>47 | 143=>86 | 219=>118 | 217=>155 | 225=>156 | 224=>157 | 267=>158 | 266=>187 | 314=>188 | n=>n,fun | 9=>9 | 4=>4 | 3=>3 | 5=>5 | 46=>189 | 146=>211 | 51=>198 | n=>n,fun | 1=>0 | n=>n⟩
theorem strCon:Go.Proofs.Lays.n144 Tryz.prog strCon_ren:={
 mixed:=by kernel_rfl
 f143:=Tryz.func86.trans (congrArg some (by kernel_rfl))
 f144:=Tryz.func47.trans (congrArg some (by kernel_rfl))
 f217:=Tryz.func155.trans (congrArg some (by kernel_rfl))
 f219:=Tryz.func118.trans (congrArg some (by kernel_rfl))
 f224:=Tryz.func157.trans (congrArg some (by kernel_rfl))
 f225:=Tryz.func156.trans (congrArg some (by kernel_rfl))
 f266:=Tryz.func187.trans (congrArg some (by kernel_rfl))
 f267:=Tryz.func158.trans (congrArg some (by kernel_rfl))
 f314:=Tryz.func188.trans (congrArg some (by kernel_rfl))
 t3:=Tryz.underlying3
 a3:=Tryz.isAgg3
 z3:=Tryz.sizeOf3
 v3:=Tryz.zeroValue3
 t4:=Tryz.underlying4
 a4:=Tryz.isAgg4
 z4:=Tryz.sizeOf4
 v4:=Tryz.zeroValue4
 t5:=Tryz.underlying5
 a5:=Tryz.isAgg5
 z5:=Tryz.sizeOf5
 v5:=Tryz.zeroValue5
 t9:=Tryz.underlying9
 a9:=Tryz.isAgg9
 z9:=Tryz.sizeOf9
 v9:=Tryz.zeroValue9
 t46:=Tryz.underlying189
 a46:=Tryz.isAgg189
 z46:=Tryz.sizeOf189
 v46:=Tryz.zeroValue189
 t51:=Tryz.underlying198
 a51:=Tryz.isAgg198
 z51:=Tryz.sizeOf198
 v51:=Tryz.zeroValue198
 t146:=Tryz.underlying211
 a146:=Tryz.isAgg211
 z146:=Tryz.sizeOf211
 v146:=Tryz.zeroValue211
 g1:=by kernel_rfl }
def strIdx_ren:Go.Shelf.Ren:=⟨fun | 143=>86 | 219=>118 | 217=>155 | 225=>156 | 224=>157 | 267=>158 | 266=>187 | 314=>188 | n=>n,fun | 9=>9 | 3=>3 | 4=>4 | 5=>5 | 46=>189 | 146=>211 | 51=>198 | n=>n,fun | 1=>0 | n=>n⟩
theorem strIdx:Go.Proofs.Lays.n143 Tryz.prog strIdx_ren:={
 mixed:=by kernel_rfl
 f143:=Tryz.func86.trans (congrArg some (by kernel_rfl))
 f217:=Tryz.func155.trans (congrArg some (by kernel_rfl))
 f219:=Tryz.func118.trans (congrArg some (by kernel_rfl))
 f224:=Tryz.func157.trans (congrArg some (by kernel_rfl))
 f225:=Tryz.func156.trans (congrArg some (by kernel_rfl))
 f266:=Tryz.func187.trans (congrArg some (by kernel_rfl))
 f267:=Tryz.func158.trans (congrArg some (by kernel_rfl))
 f314:=Tryz.func188.trans (congrArg some (by kernel_rfl))
 t3:=Tryz.underlying3
 a3:=Tryz.isAgg3
 z3:=Tryz.sizeOf3
 v3:=Tryz.zeroValue3
 t4:=Tryz.underlying4
 a4:=Tryz.isAgg4
 z4:=Tryz.sizeOf4
 v4:=Tryz.zeroValue4
 t5:=Tryz.underlying5
 a5:=Tryz.isAgg5
 z5:=Tryz.sizeOf5
 v5:=Tryz.zeroValue5
 t9:=Tryz.underlying9
 a9:=Tryz.isAgg9
 z9:=Tryz.sizeOf9
 v9:=Tryz.zeroValue9
 t46:=Tryz.underlying189
 a46:=Tryz.isAgg189
 z46:=Tryz.sizeOf189
 v46:=Tryz.zeroValue189
 t51:=Tryz.underlying198
 a51:=Tryz.isAgg198
 z51:=Tryz.sizeOf198
 v51:=Tryz.zeroValue198
 t146:=Tryz.underlying211
 a146:=Tryz.isAgg211
 z146:=Tryz.sizeOf211
 v146:=Tryz.zeroValue211
 g1:=by kernel_rfl }
def strLow_ren:Go.Shelf.Ren:=⟨fun | 159=>305 | 165=>315 | 166=>49 | 167=>316 | 169=>50 | 230=>317 | 204=>318 | 240=>88 | 241=>326 | 197=>327 | 118=>328 | 168=>329 | 270=>330 | 262=>331 | 276=>120 | 277=>343 | 260=>344 | 242=>345 | 313=>346 | 278=>350 | 274=>351 | 275=>352 | n=>n,fun | 9=>9 | 4=>4 | 3=>3 | 5=>5 | 72=>80 | 0=>0 | 76=>84 | 75=>83 | 107=>275 | 70=>78 | 20=>20 | 37=>25 | 127=>129 | 21=>21 | 105=>317 | 164=>160 | 162=>328 | 203=>267 | 119=>331 | 46=>189 | 139=>334 | 138=>333 | 51=>198 | 160=>335 | 208=>342 | 206=>340 | 80=>86 | n=>n,fun | 13=>9 | 3=>10 | 4=>11 | n=>n⟩
theorem strLow:Go.Proofs.Lays.n159 Tryz.prog strLow_ren:={
 mixed:=by kernel_rfl
 f118:=Tryz.func328.trans (congrArg some (by kernel_rfl))
 f159:=Tryz.func305.trans (congrArg some (by kernel_rfl))
 f165:=Tryz.func315.trans (congrArg some (by kernel_rfl))
 f166:=Tryz.func49.trans (congrArg some (by kernel_rfl))
 f167:=Tryz.func316.trans (congrArg some (by kernel_rfl))
 f168:=Tryz.func329.trans (congrArg some (by kernel_rfl))
 f169:=Tryz.func50.trans (congrArg some (by kernel_rfl))
 f197:=Tryz.func327.trans (congrArg some (by kernel_rfl))
 f204:=Tryz.func318.trans (congrArg some (by kernel_rfl))
 f230:=Tryz.func317.trans (congrArg some (by kernel_rfl))
 f240:=Tryz.func88.trans (congrArg some (by kernel_rfl))
 f241:=Tryz.func326.trans (congrArg some (by kernel_rfl))
 f242:=Tryz.func345.trans (congrArg some (by kernel_rfl))
 f260:=Tryz.func344.trans (congrArg some (by kernel_rfl))
 f262:=Tryz.func331.trans (congrArg some (by kernel_rfl))
 f270:=Tryz.func330.trans (congrArg some (by kernel_rfl))
 f274:=Tryz.func351.trans (congrArg some (by kernel_rfl))
 f275:=Tryz.func352.trans (congrArg some (by kernel_rfl))
 f276:=Tryz.func120.trans (congrArg some (by kernel_rfl))
 f277:=Tryz.func343.trans (congrArg some (by kernel_rfl))
 f278:=Tryz.func350.trans (congrArg some (by kernel_rfl))
 f313:=Tryz.func346.trans (congrArg some (by kernel_rfl))
 t0:=Tryz.underlying0
 a0:=Tryz.isAgg0
 z0:=Tryz.sizeOf0
 v0:=Tryz.zeroValue0
 t3:=Tryz.underlying3
 a3:=Tryz.isAgg3
 z3:=Tryz.sizeOf3
 v3:=Tryz.zeroValue3
 t4:=Tryz.underlying4
 a4:=Tryz.isAgg4
 z4:=Tryz.sizeOf4
 v4:=Tryz.zeroValue4
 t5:=Tryz.underlying5
 a5:=Tryz.isAgg5
 z5:=Tryz.sizeOf5
 v5:=Tryz.zeroValue5
 t9:=Tryz.underlying9
 a9:=Tryz.isAgg9
 z9:=Tryz.sizeOf9
 v9:=Tryz.zeroValue9
 t20:=Tryz.underlying20
 a20:=Tryz.isAgg20
 z20:=Tryz.sizeOf20
 v20:=Tryz.zeroValue20
 t21:=Tryz.underlying21
 a21:=Tryz.isAgg21
 z21:=Tryz.sizeOf21
 v21:=Tryz.zeroValue21
 t37:=Tryz.underlying25
 a37:=Tryz.isAgg25
 z37:=Tryz.sizeOf25
 v37:=Tryz.zeroValue25
 t46:=Tryz.underlying189
 a46:=Tryz.isAgg189
 z46:=Tryz.sizeOf189
 v46:=Tryz.zeroValue189
 t51:=Tryz.underlying198
 a51:=Tryz.isAgg198
 z51:=Tryz.sizeOf198
 v51:=Tryz.zeroValue198
 t70:=Tryz.underlying78
 a70:=Tryz.isAgg78
 z70:=Tryz.sizeOf78
 v70:=Tryz.zeroValue78
 t72:=Tryz.underlying80
 a72:=Tryz.isAgg80
 z72:=Tryz.sizeOf80
 v72:=Tryz.zeroValue80
 t75:=Tryz.underlying83
 a75:=Tryz.isAgg83
 z75:=Tryz.sizeOf83
 v75:=Tryz.zeroValue83
 t76:=Tryz.underlying84
 a76:=Tryz.isAgg84
 z76:=Tryz.sizeOf84
 v76:=Tryz.zeroValue84
 t105:=Tryz.underlying317
 a105:=Tryz.isAgg317
 z105:=Tryz.sizeOf317
 v105:=Tryz.zeroValue317
 t107:=Tryz.underlying275
 a107:=Tryz.isAgg275
 z107:=Tryz.sizeOf275
 v107:=Tryz.zeroValue275
 t119:=Tryz.underlying331
 a119:=Tryz.isAgg331
 z119:=Tryz.sizeOf331
 t127:=Tryz.underlying129
 a127:=Tryz.isAgg129
 z127:=Tryz.sizeOf129
 v127:=Tryz.zeroValue129
 t138:=Tryz.underlying333
 a138:=Tryz.isAgg333
 z138:=Tryz.sizeOf333
 v138:=Tryz.zeroValue333
 t139:=Tryz.underlying334
 a139:=Tryz.isAgg334
 z139:=Tryz.sizeOf334
 v139:=Tryz.zeroValue334
 t160:=Tryz.underlying335
 a160:=Tryz.isAgg335
 z160:=Tryz.sizeOf335
 v160:=Tryz.zeroValue335
 t162:=Tryz.underlying328
 a162:=Tryz.isAgg328
 z162:=Tryz.sizeOf328
 v162:=Tryz.zeroValue328
 t164:=Tryz.underlying160
 a164:=Tryz.isAgg160
 z164:=Tryz.sizeOf160
 v164:=Tryz.zeroValue160
 t203:=Tryz.underlying267
 a203:=Tryz.isAgg267
 z203:=Tryz.sizeOf267
 v203:=Tryz.zeroValue267
 t206:=Tryz.underlying340
 a206:=Tryz.isAgg340
 z206:=Tryz.sizeOf340
 v206:=Tryz.zeroValue340
 t208:=Tryz.underlying342
 a208:=Tryz.isAgg342
 z208:=Tryz.sizeOf342
 v208:=Tryz.zeroValue342
 g3:=by kernel_rfl
 g4:=by kernel_rfl
 g13:=by kernel_rfl }
theorem strLow_extra:Go.Proofs.Builder.Extra Tryz.prog strLow_ren where
 sizeBuilder:=by kernel_rfl
 liesBuilder:=by kernel_rfl
 t5:=Tryz.underlying5
 a5:=Tryz.isAgg5
 z5:=Tryz.sizeOf5
 v5:=Tryz.zeroValue5
 infoByte:=by kernel_rfl
 cellsByte:=by kernel_rfl
 sizeByte:=by kernel_rfl
 neB5:=by decide
theorem con_one (s:ByteArray) (c:UInt8) (w:World):Calls Tryz.prog 47 #[.string s,.string ⟨#[c]⟩] w fun e w'=>e=.returned (.bool (decide (0≤Lib.indexByte s.data.toList c)))∧w'=w:=Any.strings_Contains_one strCon s c w
theorem idx_one (s:ByteArray) (c:UInt8) (w:World):Calls Tryz.prog 86 #[.string s,.string ⟨#[c]⟩] w fun e w'=>e=.returned (.int .i64 (Lib.indexByte s.data.toList c))∧w'=w:=Any.strings_Index_one strIdx s c w
theorem low_one (c:UInt8) (hc:c.toNat < 128) (w:World):Calls Tryz.prog 305 #[.string ⟨#[c]⟩] w (Ret w (.string ⟨#[Lib.lowerB c]⟩)) :=
 Any.strings_ToLower_ascii strLow strLow_extra ⟨#[c]⟩ w (by show 1≤_;omega) (fun j b h=>by
  cases j with
  | zero=>simp at h;rw [←h];exact hc
  | succ j=>simp at h)
def signsB:ByteArray:=⟨#[124,40,41,91,93,42,43,63,123,125,94,36,46,92]⟩
theorem byte_all (p:UInt8→Bool) (h:∀n:Fin 256,p (UInt8.ofNat n.val)=true) (c:UInt8):p c=true:=by
 have:=h ⟨c.toNat,c.toNat_lt⟩
 rwa [show UInt8.ofNat c.toNat=c from UInt8.ofNat_toNat] at this
theorem sgn_one (c:UInt8):decide (0≤Lib.indexByte signsB.data.toList c)=sgn [c]:=by
 have:=byte_all (fun c=>decide (0≤Lib.indexByte signsB.data.toList c) == sgn [c]) (by decide +kernel) c
 exact eq_of_beq this
theorem sgn_len {x:Tx} (h:x.length≠1):sgn x=false:=by
 unfold sgn
 rw [decide_eq_false_iff_not]
 intro hm
 have:(signs.all fun t=>decide (t.length=1))=true:=by decide +kernel
 exact h (of_decide_eq_true (List.all_eq_true.1 this _ hm))
theorem sign_any (x:Tx) (w:World):Calls Tryz.prog 20 #[.string ⟨x.toArray⟩] w fun e w'=>e=.returned (.bool (sgn x))∧w'=w:=by
 by_cases h:x.length=1
 ·obtain ⟨c,rfl⟩:=List.length_eq_one_iff.1 h
  have HC:=Lib.hid (con_one signsB c w)
  rw [sgn_one] at HC
  generalize sgn [c]=q at *
  clear h
  go_enter Tryz.func20,Tryz.ntmps20
  go_wp2_with fail
  refine HC.out.mono ?_
  rintro e w1 ⟨rfl,rfl⟩
  go_wp2_with fail
  go_ret
  exact ⟨rfl,rfl⟩
 ·rw [sgn_len h]
  have hs:¬((⟨x.toArray⟩:ByteArray).size:Int)=1:=by show ¬((x.toArray.size:Nat):Int)=1;simp;omega
  have hs2:(((⟨x.toArray⟩:ByteArray).size:Int) == 1)=false:=by simpa using hs
  generalize (⟨x.toArray⟩:ByteArray)=X at *
  go_enter Tryz.func20,Tryz.ntmps20
  go_wp2_with fail
  go_ret
  exact ⟨rfl,rfl⟩
def ds16:ByteArray:=⟨#[48,49,50,51,52,53,54,55,56,57,97,98,99,100,101,102]⟩
def ds10:ByteArray:=⟨#[48,49,50,51,52,53,54,55,56,57]⟩
def optI:Option Nat→Int
 | some d=>d
 | none=>-1
theorem dig_one (c:UInt8):Lib.indexByte ds10.data.toList (Lib.lowerB c)=optI (dig [c]) :=
 eq_of_beq (byte_all (fun c=>Lib.indexByte ds10.data.toList (Lib.lowerB c) == optI (dig [c])) (by decide +kernel) c)
theorem hexd_one (c:UInt8):Lib.indexByte ds16.data.toList (Lib.lowerB c)=optI (hexd [c]) :=
 eq_of_beq (byte_all (fun c=>Lib.indexByte ds16.data.toList (Lib.lowerB c) == optI (hexd [c])) (by decide +kernel) c)
theorem dig_len {x:Tx} (h:x.length≠1):dig x=none:=by
 unfold dig
 split
 ·exact absurd rfl h
 ·rfl
theorem hexd_len {x:Tx} (h:x.length≠1):hexd x=none:=by
 unfold hexd
 split
 ·exact absurd rfl h
 ·rfl
theorem digit_no (x:Tx) (h:x.length≠1) (b:Int) (w:World):Calls Tryz.prog 290 #[.string ⟨x.toArray⟩,.int .i64 b] w (Ret w (.int .i64 (-1))):=by
 have hs:¬((⟨x.toArray⟩:ByteArray).size:Int)=1:=by show ¬((x.toArray.size:Nat):Int)=1;simp;omega
 have hs2:(((⟨x.toArray⟩:ByteArray).size:Int) != 1)=true:=by simpa using hs
 generalize (⟨x.toArray⟩:ByteArray)=X at *
 go_enter Tryz.func290,Tryz.ntmps290
 go_wp2_with fail
 go_ret
 exact ⟨rfl,Below.refl _ _⟩
set_option maxHeartbeats 4000000 in
theorem digit10_one (c:UInt8) (hc:c.toNat < 128) (w:World):Calls Tryz.prog 290 #[.string ⟨#[c]⟩,.int .i64 10] w (Ret w (.int .i64 (optI (dig [c])))):=by
 have HL:=Lib.hid (fun u=>low_one c hc u)
 have HI:=Lib.hid (fun u=>idx_one ds10 (Lib.lowerB c) u)
 rw [dig_one] at HI
 generalize optI (dig [c])=q at *
 generalize Lib.lowerB c=d at *
 clear hc
 go_enter Tryz.func290,Tryz.ntmps290
 go_wp2_with fail
 go_region_held3 (fun _=>True) (first | trivial | assumption)
  (first
  | (go_at_call 305;(with_reducible refine (HL.out _).mono ?_);rintro e w1 ⟨rfl,hb⟩)
  | (go_at_call 86;refine (HI.out _).mono ?_;rintro e w2 ⟨rfl,rfl⟩))
 go_wp2_with fail
 go_ret
 exact ⟨rfl,(Below.refl _ _).drew.trans hb⟩
set_option maxHeartbeats 4000000 in
theorem digit16_one (c:UInt8) (hc:c.toNat < 128) (w:World):Calls Tryz.prog 290 #[.string ⟨#[c]⟩,.int .i64 16] w (Ret w (.int .i64 (optI (hexd [c])))):=by
 have HL:=Lib.hid (fun u=>low_one c hc u)
 have HI:=Lib.hid (fun u=>idx_one ds16 (Lib.lowerB c) u)
 rw [hexd_one] at HI
 generalize optI (hexd [c])=q at *
 generalize Lib.lowerB c=d at *
 clear hc
 go_enter Tryz.func290,Tryz.ntmps290
 go_wp2_with fail
 go_region_held3 (fun _=>True) (first | trivial | assumption)
  (first
  | (go_at_call 305;(with_reducible refine (HL.out _).mono ?_);rintro e w1 ⟨rfl,hb⟩)
  | (go_at_call 86;refine (HI.out _).mono ?_;rintro e w2 ⟨rfl,rfl⟩))
 go_wp2_with fail
 go_ret
 exact ⟨rfl,(Below.refl _ _).drew.trans hb⟩
theorem digit10_any {x:Tx} (hx:∀c,x=[c]→c.toNat < 128) (w:World):Calls Tryz.prog 290 #[.string ⟨x.toArray⟩,.int .i64 10] w (Ret w (.int .i64 (optI (dig x)))):=by
 by_cases h:x.length=1
 ·obtain ⟨c,rfl⟩:=List.length_eq_one_iff.1 h
  exact digit10_one c (hx c rfl) w
 ·rw [dig_len h]
  exact digit_no x h 10 w
theorem digit16_any {x:Tx} (hx:∀c,x=[c]→c.toNat < 128) (w:World):Calls Tryz.prog 290 #[.string ⟨x.toArray⟩,.int .i64 16] w (Ret w (.int .i64 (optI (hexd x)))):=by
 by_cases h:x.length=1
 ·obtain ⟨c,rfl⟩:=List.length_eq_one_iff.1 h
  exact digit16_one c (hx c rfl) w
 ·rw [hexd_len h]
  exact digit_no x h 16 w
end Go.Proofs.YtkgeiokckfpjlaaGreatDoor.Syn
