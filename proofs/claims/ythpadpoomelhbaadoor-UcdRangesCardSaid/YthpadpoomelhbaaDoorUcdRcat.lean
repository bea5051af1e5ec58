/-
  CONTRACTS OF the document's Category: range by range.
-/
import Derived.Test.YthpadpoomelhbaaDoorUcdGroups
namespace Go.Proofs.YthpadpoomelhbaaDoor.Ucd
open Go.RowKit Utf

def gCat0 : List (Int × Int) := [(32, 32), (160, 160), (8192, 8202), (8232, 8233), (12288, 12288)]
def gCat1 : List (Int × Int) := [(48, 57), (178, 179), (185, 185), (188, 190), (1632, 1641), (65296, 65305)]
def gCat2 : List (Int × Int) := [(768, 879), (1155, 1161), (8400, 8412), (12441, 12442)]
def gCat3 : List (Int × Int) := [(33, 35), (37, 42), (44, 47), (58, 59), (63, 64), (91, 93), (95, 95), (123, 123), (125, 125), (161, 161), (167, 167), (171, 171), (182, 183), (187, 187), (191, 191), (903, 903), (8208, 8231), (8240, 8259), (12289, 12291)]
def gCat4 : List (Int × Int) := [(36, 36), (43, 43), (60, 62), (94, 94), (96, 96), (124, 124), (126, 126), (162, 166), (168, 169), (172, 172), (174, 177), (180, 180), (184, 184), (215, 215), (247, 247), (8352, 8384), (8592, 8959), (65533, 65533), (128512, 128591)]
def gCat5 : List (Int × Int) := [(65, 90), (97, 122), (170, 170), (181, 181), (186, 186), (192, 214), (216, 246), (248, 687), (902, 902), (904, 1023), (1024, 1153), (1162, 1327), (4352, 4607), (7680, 8124), (8486, 8486), (8490, 8491), (12353, 12438), (12449, 12538), (19968, 40959), (44032, 55203)]
theorem cat_groups (r : Int) : cat r = if anyB r gCat0 = true then 6 else if anyB r gCat1 = true then 3 else if anyB r gCat2 = true then 2 else if anyB r gCat3 = true then 4 else if anyB r gCat4 = true then 5 else if anyB r gCat5 = true then 1 else 7 := by
  rw [← cat_ref]
  show pick 7 (grp 6 gCat0 ++ (grp 3 gCat1 ++ (grp 2 gCat2 ++ (grp 4 gCat3 ++ (grp 5 gCat4 ++ (grp 1 gCat5 ++ [])))))) r = _
  simp only [pick_grp, pick]
set_option maxRecDepth 100000 in
set_option maxHeartbeats 8000000 in
theorem rcat_any (r : Int) (w : World) : Calls Tryd.prog 15 #[.int .i32 r] w fun e w' => e = .returned (.int .i64 (cat r)) ∧ w = w' := by
  go_enter Tryd.func15, Tryd.ntmps15
  go_upto_if 3 with (go_at_call 31; refine (in_any _ _ _ _).mono ?_; rintro e w' ⟨rfl, rfl⟩)
  go_cut [3] (fun s wx => ∃ b : Bool, s = .bool b ∧ Hid (anyB r gCat0 = b) ∧ Hid (w = wx))
  case first => as_aux_lemma =>
    go_wp2_with (go_at_call 31; refine (in_any _ _ _ _).mono ?_; rintro e w' ⟨rfl, rfl⟩)
    all_goals go_meet
    all_goals exact ⟨_, rfl, Lib.hid (by simp [anyB, gCat0, *]), Lib.hid rfl⟩
  case rest =>
    obtain ⟨b0, rfl, H0, hw⟩ := hcut
    obtain rfl := hw.out
    clear hw
    cases b0 with
    | true => as_aux_lemma =>
      go_wp2
      go_ret
      exact ⟨ret_int (by rw [cat_groups]; simp [H0.out]), rfl⟩
    | false =>
      go_upto_if 16 with (go_at_call 31; refine (in_any _ _ _ _).mono ?_; rintro e w' ⟨rfl, rfl⟩)
      go_cut [16] (fun s wx => ∃ b : Bool, s = .bool b ∧ Hid (anyB r gCat1 = b) ∧ Hid (w = wx))
      case first => as_aux_lemma =>
        go_wp2_with (go_at_call 31; refine (in_any _ _ _ _).mono ?_; rintro e w' ⟨rfl, rfl⟩)
        all_goals go_meet
        all_goals exact ⟨_, rfl, Lib.hid (by simp [anyB, gCat1, *]), Lib.hid rfl⟩
      case rest =>
        obtain ⟨b1, rfl, H1, hw⟩ := hcut
        obtain rfl := hw.out
        clear hw
        cases b1 with
        | true => as_aux_lemma =>
          go_wp2
          go_ret
          exact ⟨ret_int (by rw [cat_groups]; simp [H0.out, H1.out]), rfl⟩
        | false =>
          go_upto_if 31 with (go_at_call 31; refine (in_any _ _ _ _).mono ?_; rintro e w' ⟨rfl, rfl⟩)
          go_cut [31] (fun s wx => ∃ b : Bool, s = .bool b ∧ Hid (anyB r gCat2 = b) ∧ Hid (w = wx))
          case first => as_aux_lemma =>
            go_wp2_with (go_at_call 31; refine (in_any _ _ _ _).mono ?_; rintro e w' ⟨rfl, rfl⟩)
            all_goals go_meet
            all_goals exact ⟨_, rfl, Lib.hid (by simp [anyB, gCat2, *]), Lib.hid rfl⟩
          case rest =>
            obtain ⟨b2, rfl, H2, hw⟩ := hcut
            obtain rfl := hw.out
            clear hw
            cases b2 with
            | true => as_aux_lemma =>
              go_wp2
              go_ret
              exact ⟨ret_int (by rw [cat_groups]; simp [H0.out, H1.out, H2.out]), rfl⟩
            | false =>
              go_upto_if 40 with (go_at_call 31; refine (in_any _ _ _ _).mono ?_; rintro e w' ⟨rfl, rfl⟩)
              go_cut [40] (fun s wx => ∃ b : Bool, s = .bool b ∧ Hid (anyB r gCat3 = b) ∧ Hid (w = wx))
              case first => as_aux_lemma =>
                go_wp2_with (go_at_call 31; refine (in_any _ _ _ _).mono ?_; rintro e w' ⟨rfl, rfl⟩)
                all_goals go_meet
                all_goals exact ⟨_, rfl, Lib.hid (by simp [anyB, gCat3, *]), Lib.hid rfl⟩
              case rest =>
                obtain ⟨b3, rfl, H3, hw⟩ := hcut
                obtain rfl := hw.out
                clear hw
                cases b3 with
                | true => as_aux_lemma =>
                  go_wp2
                  go_ret
                  exact ⟨ret_int (by rw [cat_groups]; simp [H0.out, H1.out, H2.out, H3.out]), rfl⟩
                | false =>
                  go_upto_if 87 with (go_at_call 31; refine (in_any _ _ _ _).mono ?_; rintro e w' ⟨rfl, rfl⟩)
                  go_cut [87] (fun s wx => ∃ b : Bool, s = .bool b ∧ Hid (anyB r gCat4 = b) ∧ Hid (w = wx))
                  case first => as_aux_lemma =>
                    go_wp2_with (go_at_call 31; refine (in_any _ _ _ _).mono ?_; rintro e w' ⟨rfl, rfl⟩)
                    all_goals go_meet
                    all_goals exact ⟨_, rfl, Lib.hid (by simp [anyB, gCat4, *]), Lib.hid rfl⟩
                  case rest =>
                    obtain ⟨b4, rfl, H4, hw⟩ := hcut
                    obtain rfl := hw.out
                    clear hw
                    cases b4 with
                    | true => as_aux_lemma =>
                      go_wp2
                      go_ret
                      exact ⟨ret_int (by rw [cat_groups]; simp [H0.out, H1.out, H2.out, H3.out, H4.out]), rfl⟩
                    | false =>
                      go_upto_if 134 with (go_at_call 31; refine (in_any _ _ _ _).mono ?_; rintro e w' ⟨rfl, rfl⟩)
                      go_cut [134] (fun s wx => ∃ b : Bool, s = .bool b ∧ Hid (anyB r gCat5 = b) ∧ Hid (w = wx))
                      case first => as_aux_lemma =>
                        go_wp2_with (go_at_call 31; refine (in_any _ _ _ _).mono ?_; rintro e w' ⟨rfl, rfl⟩)
                        all_goals go_meet
                        all_goals exact ⟨_, rfl, Lib.hid (by simp [anyB, gCat5, *]), Lib.hid rfl⟩
                      case rest =>
                        obtain ⟨b5, rfl, H5, hw⟩ := hcut
                        obtain rfl := hw.out
                        clear hw
                        cases b5 with
                        | true => as_aux_lemma =>
                          go_wp2
                          go_ret
                          exact ⟨ret_int (by rw [cat_groups]; simp [H0.out, H1.out, H2.out, H3.out, H4.out, H5.out]), rfl⟩
                        | false =>
                          go_wp2_with (go_at_call 31; refine (in_any _ _ _ _).mono ?_; rintro e w' ⟨rfl, rfl⟩)
                          go_ret
                          exact ⟨ret_int (by rw [cat_groups]; simp [H0.out, H1.out, H2.out, H3.out, H4.out, H5.out]), rfl⟩
end Go.Proofs.YthpadpoomelhbaaDoor.Ucd
