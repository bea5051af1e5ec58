/-
  Texts of stage 7, part 35.
-/
import Derived.Shelf.Strings.Search3
import Derived.Shelf.Strings.OnBuilder
import Derived.Lib.Hide
import Derived.Deep.RegionHeld3
import Derived.Test.YtheelnhhkpkjnaaGreatDoorQ11
import Derived.Test.YtheelnhhkpkjnaaGreatDoorQ12
namespace Go.Proofs.YtheelnhhkpkjnaaGreatDoor.Syn
open Go.Shelf Go.RowKit
open Rset (Ret)
open Sset (Tx mk_toList)
set_option maxRecDepth 100000
def strCon_ren : Go.Shelf.Ren := ⟨fun | 144 => 31 | 143 => 55 | 219 => 74 | 217 => 99 | 225 => 100 | 224 => 101 | 267 => 102 | 266 => 122 | 314 => 123 | n => n, fun | 9 => 9 | 4 => 4 | 3 => 3 | 5 => 5 | 46 => 126 | 146 => 142 | 51 => 141 | n => n, fun | 1 => 0 | n => n⟩
theorem strCon : Go.Proofs.Lays.n144 Tryz.prog strCon_ren := {
 mixed := by kernel_rfl
 f143 := Tryz.func55.trans (congrArg some (by kernel_rfl))
 f144 := Tryz.func31.trans (congrArg some (by kernel_rfl))
 f217 := Tryz.func99.trans (congrArg some (by kernel_rfl))
 f219 := Tryz.func74.trans (congrArg some (by kernel_rfl))
 f224 := Tryz.func101.trans (congrArg some (by kernel_rfl))
 f225 := Tryz.func100.trans (congrArg some (by kernel_rfl))
 f266 := Tryz.func122.trans (congrArg some (by kernel_rfl))
 f267 := Tryz.func102.trans (congrArg some (by kernel_rfl))
 f314 := Tryz.func123.trans (congrArg some (by kernel_rfl))
 t3 := Tryz.underlying3
 a3 := Tryz.isAgg3
 z3 := Tryz.sizeOf3
 v3 := Tryz.zeroValue3
 t4 := Tryz.underlying4
 a4 := Tryz.isAgg4
 z4 := Tryz.sizeOf4
 v4 := Tryz.zeroValue4
 t5 := Tryz.underlying5
 a5 := Tryz.isAgg5
 z5 := Tryz.sizeOf5
 v5 := Tryz.zeroValue5
 t9 := Tryz.underlying9
 a9 := Tryz.isAgg9
 z9 := Tryz.sizeOf9
 v9 := Tryz.zeroValue9
 t46 := Tryz.underlying126
 a46 := Tryz.isAgg126
 z46 := Tryz.sizeOf126
 v46 := Tryz.zeroValue126
 t51 := Tryz.underlying141
 a51 := Tryz.isAgg141
 z51 := Tryz.sizeOf141
 v51 := Tryz.zeroValue141
 t146 := Tryz.underlying142
 a146 := Tryz.isAgg142
 z146 := Tryz.sizeOf142
 v146 := Tryz.zeroValue142
 g1 := by kernel_rfl }
def strIdx_ren : Go.Shelf.Ren := ⟨fun | 143 => 55 | 219 => 74 | 217 => 99 | 225 => 100 | 224 => 101 | 267 => 102 | 266 => 122 | 314 => 123 | n => n, fun | 9 => 9 | 3 => 3 | 4 => 4 | 5 => 5 | 46 => 126 | 146 => 142 | 51 => 141 | n => n, fun | 1 => 0 | n => n⟩
theorem strIdx : Go.Proofs.Lays.n143 Tryz.prog strIdx_ren := {
 mixed := by kernel_rfl
 f143 := Tryz.func55.trans (congrArg some (by kernel_rfl))
 f217 := Tryz.func99.trans (congrArg some (by kernel_rfl))
 f219 := Tryz.func74.trans (congrArg some (by kernel_rfl))
 f224 := Tryz.func101.trans (congrArg some (by kernel_rfl))
 f225 := Tryz.func100.trans (congrArg some (by kernel_rfl))
 f266 := Tryz.func122.trans (congrArg some (by kernel_rfl))
 f267 := Tryz.func102.trans (congrArg some (by kernel_rfl))
 f314 := Tryz.func123.trans (congrArg some (by kernel_rfl))
 t3 := Tryz.underlying3
 a3 := Tryz.isAgg3
 z3 := Tryz.sizeOf3
 v3 := Tryz.zeroValue3
 t4 := Tryz.underlying4
 a4 := Tryz.isAgg4
 z4 := Tryz.sizeOf4
 v4 := Tryz.zeroValue4
 t5 := Tryz.underlying5
 a5 := Tryz.isAgg5
 z5 := Tryz.sizeOf5
 v5 := Tryz.zeroValue5
 t9 := Tryz.underlying9
 a9 := Tryz.isAgg9
 z9 := Tryz.sizeOf9
 v9 := Tryz.zeroValue9
 t46 := Tryz.underlying126
 a46 := Tryz.isAgg126
 z46 := Tryz.sizeOf126
 v46 := Tryz.zeroValue126
 t51 := Tryz.underlying141
 a51 := Tryz.isAgg141
 z51 := Tryz.sizeOf141
 v51 := Tryz.zeroValue141
 t146 := Tryz.underlying142
 a146 := Tryz.isAgg142
 z146 := Tryz.sizeOf142
 v146 := Tryz.zeroValue142
 g1 := by kernel_rfl }
def strLow_ren : Go.Shelf.Ren := ⟨fun | 159 => 214 | 165 => 229 | 166 => 33 | 167 => 230 | 169 => 34 | 230 => 231 | 204 => 232 | 240 => 57 | 241 => 242 | 197 => 243 | 118 => 244 | 168 => 245 | 270 => 246 | 262 => 247 | 276 => 76 | 277 => 252 | 260 => 253 | 242 => 254 | 313 => 255 | 278 => 256 | 274 => 257 | 275 => 258 | n => n, fun | 9 => 9 | 4 => 4 | 3 => 3 | 5 => 5 | 72 => 61 | 0 => 0 | 76 => 65 | 75 => 64 | 107 => 213 | 70 => 59 | 20 => 20 | 37 => 25 | 127 => 97 | 21 => 21 | 105 => 251 | 164 => 112 | 162 => 259 | 203 => 240 | 119 => 260 | 46 => 126 | 139 => 263 | 138 => 262 | 51 => 141 | 160 => 264 | 208 => 270 | 206 => 268 | 80 => 67 | n => n, fun | 13 => 6 | 3 => 7 | 4 => 8 | n => n⟩
theorem strLow : Go.Proofs.Lays.n159 Tryz.prog strLow_ren := {
 mixed := by kernel_rfl
 f118 := Tryz.func244.trans (congrArg some (by kernel_rfl))
 f159 := Tryz.func214.trans (congrArg some (by kernel_rfl))
 f165 := Tryz.func229.trans (congrArg some (by kernel_rfl))
 f166 := Tryz.func33.trans (congrArg some (by kernel_rfl))
 f167 := Tryz.func230.trans (congrArg some (by kernel_rfl))
 f168 := Tryz.func245.trans (congrArg some (by kernel_rfl))
 f169 := Tryz.func34.trans (congrArg some (by kernel_rfl))
 f197 := Tryz.func243.trans (congrArg some (by kernel_rfl))
 f204 := Tryz.func232.trans (congrArg some (by kernel_rfl))
 f230 := Tryz.func231.trans (congrArg some (by kernel_rfl))
 f240 := Tryz.func57.trans (congrArg some (by kernel_rfl))
 f241 := Tryz.func242.trans (congrArg some (by kernel_rfl))
 f242 := Tryz.func254.trans (congrArg some (by kernel_rfl))
 f260 := Tryz.func253.trans (congrArg some (by kernel_rfl))
 f262 := Tryz.func247.trans (congrArg some (by kernel_rfl))
 f270 := Tryz.func246.trans (congrArg some (by kernel_rfl))
 f274 := Tryz.func257.trans (congrArg some (by kernel_rfl))
 f275 := Tryz.func258.trans (congrArg some (by kernel_rfl))
 f276 := Tryz.func76.trans (congrArg some (by kernel_rfl))
 f277 := Tryz.func252.trans (congrArg some (by kernel_rfl))
 f278 := Tryz.func256.trans (congrArg some (by kernel_rfl))
 f313 := Tryz.func255.trans (congrArg some (by kernel_rfl))
 t0 := Tryz.underlying0
 a0 := Tryz.isAgg0
 z0 := Tryz.sizeOf0
 v0 := Tryz.zeroValue0
 t3 := Tryz.underlying3
 a3 := Tryz.isAgg3
 z3 := Tryz.sizeOf3
 v3 := Tryz.zeroValue3
 t4 := Tryz.underlying4
 a4 := Tryz.isAgg4
 z4 := Tryz.sizeOf4
 v4 := Tryz.zeroValue4
 t5 := Tryz.underlying5
 a5 := Tryz.isAgg5
 z5 := Tryz.sizeOf5
 v5 := Tryz.zeroValue5
 t9 := Tryz.underlying9
 a9 := Tryz.isAgg9
 z9 := Tryz.sizeOf9
 v9 := Tryz.zeroValue9
 t20 := Tryz.underlying20
 a20 := Tryz.isAgg20
 z20 := Tryz.sizeOf20
 v20 := Tryz.zeroValue20
 t21 := Tryz.underlying21
 a21 := Tryz.isAgg21
 z21 := Tryz.sizeOf21
 v21 := Tryz.zeroValue21
 t37 := Tryz.underlying25
 a37 := Tryz.isAgg25
 z37 := Tryz.sizeOf25
 v37 := Tryz.zeroValue25
 t46 := Tryz.underlying126
 a46 := Tryz.isAgg126
 z46 := Tryz.sizeOf126
 v46 := Tryz.zeroValue126
 t51 := Tryz.underlying141
 a51 := Tryz.isAgg141
 z51 := Tryz.sizeOf141
 v51 := Tryz.zeroValue141
 t70 := Tryz.underlying59
 a70 := Tryz.isAgg59
 z70 := Tryz.sizeOf59
 v70 := Tryz.zeroValue59
 t72 := Tryz.underlying61
 a72 := Tryz.isAgg61
 z72 := Tryz.sizeOf61
 v72 := Tryz.zeroValue61
 t75 := Tryz.underlying64
 a75 := Tryz.isAgg64
 z75 := Tryz.sizeOf64
 v75 := Tryz.zeroValue64
 t76 := Tryz.underlying65
 a76 := Tryz.isAgg65
 z76 := Tryz.sizeOf65
 v76 := Tryz.zeroValue65
 t105 := Tryz.underlying251
 a105 := Tryz.isAgg251
 z105 := Tryz.sizeOf251
 v105 := Tryz.zeroValue251
 t107 := Tryz.underlying213
 a107 := Tryz.isAgg213
 z107 := Tryz.sizeOf213
 v107 := Tryz.zeroValue213
 t119 := Tryz.underlying260
 a119 := Tryz.isAgg260
 z119 := Tryz.sizeOf260
 t127 := Tryz.underlying97
 a127 := Tryz.isAgg97
 z127 := Tryz.sizeOf97
 v127 := Tryz.zeroValue97
 t138 := Tryz.underlying262
 a138 := Tryz.isAgg262
 z138 := Tryz.sizeOf262
 v138 := Tryz.zeroValue262
 t139 := Tryz.underlying263
 a139 := Tryz.isAgg263
 z139 := Tryz.sizeOf263
 v139 := Tryz.zeroValue263
 t160 := Tryz.underlying264
 a160 := Tryz.isAgg264
 z160 := Tryz.sizeOf264
 v160 := Tryz.zeroValue264
 t162 := Tryz.underlying259
 a162 := Tryz.isAgg259
 z162 := Tryz.sizeOf259
 v162 := Tryz.zeroValue259
 t164 := Tryz.underlying112
 a164 := Tryz.isAgg112
 z164 := Tryz.sizeOf112
 v164 := Tryz.zeroValue112
 t203 := Tryz.underlying240
 a203 := Tryz.isAgg240
 z203 := Tryz.sizeOf240
 v203 := Tryz.zeroValue240
 t206 := Tryz.underlying268
 a206 := Tryz.isAgg268
 z206 := Tryz.sizeOf268
 v206 := Tryz.zeroValue268
 t208 := Tryz.underlying270
 a208 := Tryz.isAgg270
 z208 := Tryz.sizeOf270
 v208 := Tryz.zeroValue270
 g3 := by kernel_rfl
 g4 := by kernel_rfl
 g13 := by kernel_rfl }
theorem strLow_extra : Go.Proofs.Builder.Extra Tryz.prog strLow_ren where
 sizeBuilder := by kernel_rfl
 liesBuilder := by kernel_rfl
 t5 := Tryz.underlying5
 a5 := Tryz.isAgg5
 z5 := Tryz.sizeOf5
 v5 := Tryz.zeroValue5
 infoByte := by kernel_rfl
 cellsByte := by kernel_rfl
 sizeByte := by kernel_rfl
 neB5 := by decide
theorem con_one (s : ByteArray) (c : UInt8) (w : World) : Calls Tryz.prog 31 #[.string s, .string ⟨#[c]⟩] w fun e w' => e = .returned (.bool (decide (0 ≤ Lib.indexByte s.data.toList c))) ∧ w' = w := Any.strings_Contains_one strCon s c w
theorem idx_one (s : ByteArray) (c : UInt8) (w : World) : Calls Tryz.prog 55 #[.string s, .string ⟨#[c]⟩] w fun e w' => e = .returned (.int .i64 (Lib.indexByte s.data.toList c)) ∧ w' = w := Any.strings_Index_one strIdx s c w
theorem low_one (c : UInt8) (hc : c.toNat < 128) (w : World) : Calls Tryz.prog 214 #[.string ⟨#[c]⟩] w (Ret w (.string ⟨#[Lib.lowerB c]⟩)) :=
 Any.strings_ToLower_ascii strLow strLow_extra ⟨#[c]⟩ w (by show 1 ≤ _; omega) (fun j b h => by
  cases j with
  | zero => simp at h; rw [← h]; exact hc
  | succ j => simp at h)
def signsB : ByteArray := ⟨#[124, 40, 41, 91, 93, 42, 43, 63, 123, 125, 94, 36, 46, 92]⟩
theorem byte_all (p : UInt8 → Bool) (h : ∀ n : Fin 256, p (UInt8.ofNat n.val) = true) (c : UInt8) : p c = true := by
 have := h ⟨c.toNat, c.toNat_lt⟩
 rwa [show UInt8.ofNat c.toNat = c from UInt8.ofNat_toNat] at this
theorem sgn_one (c : UInt8) : decide (0 ≤ Lib.indexByte signsB.data.toList c) = sgn [c] := by
 have := byte_all (fun c => decide (0 ≤ Lib.indexByte signsB.data.toList c) == sgn [c]) (by decide +kernel) c
 exact eq_of_beq this
theorem sgn_len {x : Tx} (h : x.length ≠ 1) : sgn x = false := by
 unfold sgn
 rw [decide_eq_false_iff_not]
 intro hm
 have : (signs.all fun t => decide (t.length = 1)) = true := by decide +kernel
 exact h (of_decide_eq_true (List.all_eq_true.1 this _ hm))
theorem sign_any (x : Tx) (w : World) : Calls Tryz.prog 15 #[.string ⟨x.toArray⟩] w fun e w' => e = .returned (.bool (sgn x)) ∧ w' = w := by
 by_cases h : x.length = 1
 ·obtain ⟨c, rfl⟩ := List.length_eq_one_iff.1 h
  have HC := Lib.hid (con_one signsB c w)
  rw [sgn_one] at HC
  generalize sgn [c] = q at *
  clear h
  go_enter Tryz.func15, Tryz.ntmps15
  go_wp2_with fail
  refine HC.out.mono ?_
  rintro e w1 ⟨rfl, rfl⟩
  go_wp2_with fail
  go_ret
  exact ⟨rfl, rfl⟩
 ·rw [sgn_len h]
  have hs : ¬ ((⟨x.toArray⟩ : ByteArray).size : Int) = 1 := by show ¬ ((x.toArray.size : Nat) : Int) = 1; simp; omega
  have hs2 : (((⟨x.toArray⟩ : ByteArray).size : Int) == 1) = false := by simpa using hs
  generalize (⟨x.toArray⟩ : ByteArray) = X at *
  go_enter Tryz.func15, Tryz.ntmps15
  go_wp2_with fail
  go_ret
  exact ⟨rfl, rfl⟩
def ds16 : ByteArray := ⟨#[48, 49, 50, 51, 52, 53, 54, 55, 56, 57, 97, 98, 99, 100, 101, 102]⟩
def ds10 : ByteArray := ⟨#[48, 49, 50, 51, 52, 53, 54, 55, 56, 57]⟩
def optI : Option Nat → Int
 | some d => d
 | none => -1
theorem dig_one (c : UInt8) : Lib.indexByte ds10.data.toList (Lib.lowerB c) = optI (dig [c]) :=
 eq_of_beq (byte_all (fun c => Lib.indexByte ds10.data.toList (Lib.lowerB c) == optI (dig [c])) (by decide +kernel) c)
theorem hexd_one (c : UInt8) : Lib.indexByte ds16.data.toList (Lib.lowerB c) = optI (hexd [c]) :=
 eq_of_beq (byte_all (fun c => Lib.indexByte ds16.data.toList (Lib.lowerB c) == optI (hexd [c])) (by decide +kernel) c)
theorem dig_len {x : Tx} (h : x.length ≠ 1) : dig x = none := by
 unfold dig
 split
 ·exact absurd rfl h
 ·rfl
theorem hexd_len {x : Tx} (h : x.length ≠ 1) : hexd x = none := by
 unfold hexd
 split
 ·exact absurd rfl h
 ·rfl
theorem digit_no (x : Tx) (h : x.length ≠ 1) (b : Int) (w : World) : Calls Tryz.prog 206 #[.string ⟨x.toArray⟩, .int .i64 b] w (Ret w (.int .i64 (-1))) := by
 have hs : ¬ ((⟨x.toArray⟩ : ByteArray).size : Int) = 1 := by show ¬ ((x.toArray.size : Nat) : Int) = 1; simp; omega
 have hs2 : (((⟨x.toArray⟩ : ByteArray).size : Int) != 1) = true := by simpa using hs
 generalize (⟨x.toArray⟩ : ByteArray) = X at *
 go_enter Tryz.func206, Tryz.ntmps206
 go_wp2_with fail
 go_ret
 exact ⟨rfl, Below.refl _ _⟩
set_option maxHeartbeats 4000000 in
theorem digit10_one (c : UInt8) (hc : c.toNat < 128) (w : World) : Calls Tryz.prog 206 #[.string ⟨#[c]⟩, .int .i64 10] w (Ret w (.int .i64 (optI (dig [c])))) := by
 have HL := Lib.hid (fun u => low_one c hc u)
 have HI := Lib.hid (fun u => idx_one ds10 (Lib.lowerB c) u)
 rw [dig_one] at HI
 generalize optI (dig [c]) = q at *
 generalize Lib.lowerB c = d at *
 clear hc
 go_enter Tryz.func206, Tryz.ntmps206
 go_wp2_with fail
 go_region_held3 (fun _ => True) (first | trivial | assumption)
  (first
  | (go_at_call 214; (with_reducible refine (HL.out _).mono ?_); rintro e w1 ⟨rfl, hb⟩)
  | (go_at_call 55; refine (HI.out _).mono ?_; rintro e w2 ⟨rfl, rfl⟩))
 go_wp2_with fail
 go_ret
 exact ⟨rfl, (Below.refl _ _).drew.trans hb⟩
set_option maxHeartbeats 4000000 in
theorem digit16_one (c : UInt8) (hc : c.toNat < 128) (w : World) : Calls Tryz.prog 206 #[.string ⟨#[c]⟩, .int .i64 16] w (Ret w (.int .i64 (optI (hexd [c])))) := by
 have HL := Lib.hid (fun u => low_one c hc u)
 have HI := Lib.hid (fun u => idx_one ds16 (Lib.lowerB c) u)
 rw [hexd_one] at HI
 generalize optI (hexd [c]) = q at *
 generalize Lib.lowerB c = d at *
 clear hc
 go_enter Tryz.func206, Tryz.ntmps206
 go_wp2_with fail
 go_region_held3 (fun _ => True) (first | trivial | assumption)
  (first
  | (go_at_call 214; (with_reducible refine (HL.out _).mono ?_); rintro e w1 ⟨rfl, hb⟩)
  | (go_at_call 55; refine (HI.out _).mono ?_; rintro e w2 ⟨rfl, rfl⟩))
 go_wp2_with fail
 go_ret
 exact ⟨rfl, (Below.refl _ _).drew.trans hb⟩
theorem digit10_any {x : Tx} (hx : ∀ c, x = [c] → c.toNat < 128) (w : World) : Calls Tryz.prog 206 #[.string ⟨x.toArray⟩, .int .i64 10] w (Ret w (.int .i64 (optI (dig x)))) := by
 by_cases h : x.length = 1
 ·obtain ⟨c, rfl⟩ := List.length_eq_one_iff.1 h
  exact digit10_one c (hx c rfl) w
 ·rw [dig_len h]
  exact digit_no x h 10 w
theorem digit16_any {x : Tx} (hx : ∀ c, x = [c] → c.toNat < 128) (w : World) : Calls Tryz.prog 206 #[.string ⟨x.toArray⟩, .int .i64 16] w (Ret w (.int .i64 (optI (hexd x)))) := by
 by_cases h : x.length = 1
 ·obtain ⟨c, rfl⟩ := List.length_eq_one_iff.1 h
  exact digit16_one c (hx c rfl) w
 ·rw [hexd_len h]
  exact digit_no x h 16 w
end Go.Proofs.YtheelnhhkpkjnaaGreatDoor.Syn
