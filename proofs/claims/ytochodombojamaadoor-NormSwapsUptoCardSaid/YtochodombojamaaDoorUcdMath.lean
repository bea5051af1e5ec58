/-
  PLAIN MATHEMATICS OF TABLES: a number looked up in a list of ranges, early or late; two such readings agree everywhere if they agree at the ends of their ranges.
-/
import Derived.KernelRfl
namespace Go.Proofs.YtochodombojamaaDoor.Ucd

/-- looked up in rows that rise: the search stops at the first row that begins above r -/
def look (d : Int) : List (Int × Int × Int) → Int → Int
  | [], _ => d
  | x :: t, r => if r < x.1 then d else if r ≤ x.2.1 then x.2.2 else look d t r
/-- the first row in which r lies -/
def pick (d : Int) : List (Int × Int × Int) → Int → Int
  | [], _ => d
  | x :: t, r => if x.1 ≤ r ∧ r ≤ x.2.1 then x.2.2 else pick d t r
/-- where a reading may change -/
def ends (rows : List (Int × Int × Int)) : List Int := rows.flatMap fun x => [x.1, x.2.1 + 1]

theorem ends_lo {rows : List (Int × Int × Int)} {x : Int × Int × Int} (h : x ∈ rows) : x.1 ∈ ends rows := by
  simp only [ends, List.mem_flatMap]; exact ⟨x, h, by simp⟩
theorem ends_hi {rows : List (Int × Int × Int)} {x : Int × Int × Int} (h : x ∈ rows) : x.2.1 + 1 ∈ ends rows := by
  simp only [ends, List.mem_flatMap]; exact ⟨x, h, by simp⟩
theorem look_same {d r b : Int} : ∀ {rows : List (Int × Int × Int)}, (∀ y ∈ ends rows, (y ≤ r ↔ y ≤ b)) → look d rows r = look d rows b := by
  intro rows
  induction rows with
  | nil => intro _; rfl
  | cons x t ih =>
    intro h
    have h1 := h x.1 (ends_lo (by simp))
    have h2 := h (x.2.1 + 1) (ends_hi (by simp))
    have h3 := ih fun y hy => h y (by simp only [ends, List.flatMap_cons, List.mem_append] at hy ⊢; exact .inr hy)
    simp only [look, h3]
    have e1 : (r < x.1) ↔ (b < x.1) := by omega
    have e2 : (r ≤ x.2.1) ↔ (b ≤ x.2.1) := by omega
    simp only [e1, e2]
theorem pick_same {d r b : Int} : ∀ {rows : List (Int × Int × Int)}, (∀ y ∈ ends rows, (y ≤ r ↔ y ≤ b)) → pick d rows r = pick d rows b := by
  intro rows
  induction rows with
  | nil => intro _; rfl
  | cons x t ih =>
    intro h
    have h1 := h x.1 (ends_lo (by simp))
    have h2 := h (x.2.1 + 1) (ends_hi (by simp))
    have h3 := ih fun y hy => h y (by simp only [ends, List.flatMap_cons, List.mem_append] at hy ⊢; exact .inr hy)
    simp only [pick, h3]
    have e1 : (x.1 ≤ r ∧ r ≤ x.2.1) ↔ (x.1 ≤ b ∧ b ≤ x.2.1) := by omega
    simp only [e1]
/-- the greatest of a list that is not above r, or there is none -/
theorem floor_of (r : Int) : ∀ L : List Int, (∀ y ∈ L, ¬ y ≤ r) ∨ ∃ b ∈ L, b ≤ r ∧ ∀ y ∈ L, y ≤ r → y ≤ b := by
  intro L
  induction L with
  | nil => exact .inl (by simp)
  | cons x t ih =>
    by_cases hx : x ≤ r
    · refine .inr ?_
      rcases ih with h | ⟨b, hb, hbr, hm⟩
      · refine ⟨x, by simp, hx, fun y hy hyr => ?_⟩
        rcases List.mem_cons.1 hy with rfl | hy
        · omega
        · exact absurd hyr (h y hy)
      · by_cases hxb : x ≤ b
        · refine ⟨b, by simp [hb], hbr, fun y hy hyr => ?_⟩
          rcases List.mem_cons.1 hy with rfl | hy
          · exact hxb
          · exact hm y hy hyr
        · refine ⟨x, by simp, hx, fun y hy hyr => ?_⟩
          rcases List.mem_cons.1 hy with rfl | hy
          · omega
          · have := hm y hy hyr; omega
    · rcases ih with h | ⟨b, hb, hbr, hm⟩
      · refine .inl fun y hy => ?_
        rcases List.mem_cons.1 hy with rfl | hy
        · exact hx
        · exact h y hy
      · refine .inr ⟨b, by simp [hb], hbr, fun y hy hyr => ?_⟩
        rcases List.mem_cons.1 hy with rfl | hy
        · exact absurd hyr hx
        · exact hm y hy hyr
/-- A PREDICATE THAT HANGS ON COMPARISONS WITH A LIST's NUMBERS ALONE holds everywhere if it holds at them and below them all. -/
theorem at_all {p : Int → Prop} {L : List Int} (hs : ∀ r b : Int, (∀ y ∈ L, (y ≤ r ↔ y ≤ b)) → (p r ↔ p b)) (h : ∀ b ∈ L, p b) (low : Int) (hl : ∀ y ∈ L, ¬ y ≤ low) (h0 : p low) (r : Int) : p r := by
  rcases floor_of r L with hn | ⟨b, hb, hbr, hm⟩
  · exact (hs r low fun y hy => ⟨fun h => absurd h (hn y hy), fun h => absurd h (hl y hy)⟩).2 h0
  · exact (hs r b fun y hy => ⟨fun h => hm y hy h, fun h => by omega⟩).2 (h b hb)

def lowRows : List (Int × Int × Int) := [(32, 32, 6), (33, 35, 4), (36, 36, 5), (37, 42, 4), (43, 43, 5), (44, 47, 4), (48, 57, 3), (58, 59, 4), (60, 62, 5), (63, 64, 4), (65, 90, 1), (91, 93, 4), (94, 94, 5), (95, 95, 4), (96, 96, 5), (97, 122, 1), (123, 123, 4), (124, 124, 5), (125, 125, 4), (126, 126, 5), (160, 160, 6), (161, 161, 4), (162, 166, 5), (167, 167, 4), (168, 169, 5), (170, 170, 1), (171, 171, 4), (172, 172, 5), (174, 177, 5), (178, 179, 3), (180, 180, 5), (181, 181, 1), (182, 183, 4), (184, 184, 5), (185, 185, 3), (186, 186, 1), (187, 187, 4), (188, 190, 3), (191, 191, 4), (192, 214, 1), (215, 215, 5), (216, 246, 1), (247, 247, 5)]
def highRows : List (Int × Int × Int) := [(248, 687, 1), (768, 879, 2), (902, 902, 1), (903, 903, 4), (904, 1153, 1), (1155, 1161, 2), (1162, 1327, 1), (1632, 1641, 3), (4352, 4607, 1), (7680, 8124, 1), (8192, 8202, 6), (8208, 8231, 4), (8232, 8233, 6), (8240, 8259, 4), (8352, 8384, 5), (8400, 8412, 2), (8486, 8486, 1), (8490, 8491, 1), (8592, 8959, 5), (12288, 12288, 6), (12289, 12291, 4), (12353, 12438, 1), (12441, 12442, 2), (12449, 12538, 1), (19968, 40959, 1), (44032, 55203, 1), (65296, 65305, 3), (65533, 65533, 5), (128512, 128591, 5)]
def clsRows : List (Int × Int × Int) := [(768, 788, 230), (789, 789, 232), (790, 793, 220), (794, 794, 232), (795, 795, 216), (796, 800, 220), (801, 802, 202), (803, 806, 220), (807, 808, 202), (809, 819, 220), (820, 824, 1), (825, 828, 220), (829, 836, 230), (837, 837, 240), (838, 838, 230), (839, 841, 220), (842, 844, 230), (845, 846, 220), (848, 850, 230), (851, 854, 220), (855, 855, 230), (8400, 8401, 230), (12441, 12442, 8)]
def shRows : List (Int × Int × Int × Int) := [(65, 90, 1, 32), (192, 222, 1, 32), (913, 937, 1, 32), (1040, 1071, 1, 32), (1024, 1039, 1, 80), (256, 302, 2, 1), (306, 310, 2, 1), (330, 374, 2, 1), (7680, 7828, 2, 1), (313, 327, 2, 1), (377, 381, 2, 1)]
def listRows : List (Int × Int × Int) := [(469, 220, 772), (470, 252, 772), (832, 768, 0), (833, 769, 0), (835, 787, 0), (836, 776, 769), (902, 913, 769), (912, 970, 769), (940, 945, 769), (943, 953, 769), (970, 953, 776), (972, 959, 769), (7691, 100, 775), (7693, 100, 803), (7777, 115, 775), (7779, 115, 803), (7785, 7779, 775), (7841, 97, 803), (7844, 194, 769), (7845, 226, 769), (7863, 7841, 774), (7865, 101, 803), (7879, 7865, 770), (8049, 940, 0), (8115, 945, 837), (8486, 937, 0), (8490, 75, 0), (8491, 197, 0), (8800, 61, 824), (12364, 12363, 12441), (12497, 12495, 12442)]
def markList : List Int := [768, 769, 770, 771, 772, 774, 775, 776, 778, 779, 780, 807, 808]
def refCls : List (Int × Int × Int) := [(768, 788, 230), (829, 836, 230), (838, 838, 230), (842, 844, 230), (848, 850, 230), (855, 855, 230), (8400, 8401, 230), (789, 789, 232), (794, 794, 232), (790, 793, 220), (796, 800, 220), (803, 806, 220), (809, 819, 220), (825, 828, 220), (839, 841, 220), (845, 846, 220), (851, 854, 220), (795, 795, 216), (801, 802, 202), (807, 808, 202), (820, 824, 1), (837, 837, 240), (12441, 12442, 8)]
def refCat : List (Int × Int × Int) := [(32, 32, 6), (160, 160, 6), (8192, 8202, 6), (8232, 8233, 6), (12288, 12288, 6), (48, 57, 3), (178, 179, 3), (185, 185, 3), (188, 190, 3), (1632, 1641, 3), (65296, 65305, 3), (768, 879, 2), (1155, 1161, 2), (8400, 8412, 2), (12441, 12442, 2), (33, 35, 4), (37, 42, 4), (44, 47, 4), (58, 59, 4), (63, 64, 4), (91, 93, 4), (95, 95, 4), (123, 123, 4), (125, 125, 4), (161, 161, 4), (167, 167, 4), (171, 171, 4), (182, 183, 4), (187, 187, 4), (191, 191, 4), (903, 903, 4), (8208, 8231, 4), (8240, 8259, 4), (12289, 12291, 4), (36, 36, 5), (43, 43, 5), (60, 62, 5), (94, 94, 5), (96, 96, 5), (124, 124, 5), (126, 126, 5), (162, 166, 5), (168, 169, 5), (172, 172, 5), (174, 177, 5), (180, 180, 5), (184, 184, 5), (215, 215, 5), (247, 247, 5), (8352, 8384, 5), (8592, 8959, 5), (65533, 65533, 5), (128512, 128591, 5), (65, 90, 1), (97, 122, 1), (170, 170, 1), (181, 181, 1), (186, 186, 1), (192, 214, 1), (216, 246, 1), (248, 687, 1), (902, 902, 1), (904, 1023, 1), (1024, 1153, 1), (1162, 1327, 1), (4352, 4607, 1), (7680, 8124, 1), (8486, 8486, 1), (8490, 8491, 1), (12353, 12438, 1), (12449, 12538, 1), (19968, 40959, 1), (44032, 55203, 1)]
def fewRows : List (Int × Int × Int × Int) := [(469, 220, 772, 2), (470, 252, 772, 2), (832, 768, 0, 1), (833, 769, 0, 1), (835, 787, 0, 1), (836, 776, 769, 2), (902, 913, 769, 2), (912, 970, 769, 2), (940, 945, 769, 2), (943, 953, 769, 2), (970, 953, 776, 2), (972, 959, 769, 2), (7691, 100, 775, 2), (7693, 100, 803, 2), (7777, 115, 775, 2), (7779, 115, 803, 2), (7785, 7779, 775, 2), (7841, 97, 803, 2), (7844, 194, 769, 2), (7845, 226, 769, 2), (7863, 7841, 774, 2), (7865, 101, 803, 2), (7879, 7865, 770, 2), (8049, 940, 0, 1), (8115, 945, 837, 2), (8486, 937, 0, 1), (8490, 75, 0, 1), (8491, 197, 0, 1), (8800, 61, 824, 2), (12364, 12363, 12441, 2), (12497, 12495, 12442, 2)]

def cls (r : Int) : Int := look 0 clsRows r
def catRows : List (Int × Int × Int) := lowRows ++ highRows
def cat (r : Int) : Int := look 7 catRows r
def trl (r : Int) : Bool := decide ((4449 ≤ r ∧ r ≤ 4469) ∨ (4520 ≤ r ∧ r ≤ 4546))

theorem cls_ref (r : Int) : pick 0 refCls r = cls r := by
  refine at_all (p := fun r => pick 0 refCls r = cls r) (L := ends refCls ++ ends clsRows) (fun r b h => ?_) ?_ (-1) ?_ ?_ r
  · rw [pick_same (b := b) fun y hy => h y (by simp [hy]), show cls r = cls b from look_same fun y hy => h y (by simp [hy])]
  · decide +kernel
  · decide +kernel
  · decide +kernel
theorem cat_ref (r : Int) : pick 7 refCat r = cat r := by
  refine at_all (p := fun r => pick 7 refCat r = cat r) (L := ends refCat ++ ends catRows) (fun r b h => ?_) ?_ (-1) ?_ ?_ r
  · rw [pick_same (b := b) fun y hy => h y (by simp [hy]), show cat r = cat b from look_same fun y hy => h y (by simp [hy])]
  · decide +kernel
  · decide +kernel
  · decide +kernel
/-- what has a class is a mark by its category and does not trail -/
theorem cls_mark (r : Int) : cls r ≠ 0 → cat r = 2 ∧ trl r = false ∧ 1 ≤ cls r ∧ cls r ≤ 254 := by
  refine at_all (p := fun r => cls r ≠ 0 → cat r = 2 ∧ trl r = false ∧ 1 ≤ cls r ∧ cls r ≤ 254) (L := ends clsRows ++ ends catRows ++ [4449, 4470, 4520, 4547]) (fun r b h => ?_) ?_ (-1) ?_ ?_ r
  · rw [show cat r = cat b from look_same fun y hy => h y (by simp [hy]), show cls r = cls b from look_same fun y hy => h y (by simp [hy])]
    have a1 := h 4449 (by simp)
    have a2 := h 4470 (by simp)
    have a3 := h 4520 (by simp)
    have a4 := h 4547 (by simp)
    have e : ((4449 ≤ r ∧ r ≤ 4469) ∨ (4520 ≤ r ∧ r ≤ 4546)) ↔ ((4449 ≤ b ∧ b ≤ 4469) ∨ (4520 ≤ b ∧ b ≤ 4546)) := by omega
    rw [show trl r = trl b by unfold trl; exact decide_eq_decide.2 e]
  · decide +kernel
  · decide +kernel
  · decide +kernel
theorem cls_range (r : Int) : 0 ≤ cls r ∧ cls r ≤ 254 := by
  by_cases h : cls r = 0
  · rw [h]; omega
  · have := cls_mark r h; omega
end Go.Proofs.YtochodombojamaaDoor.Ucd
