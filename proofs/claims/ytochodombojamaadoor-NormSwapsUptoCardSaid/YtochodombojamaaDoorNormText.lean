/-
  CONTRACTS OF numbers, Text, Runes, and of the document's Runes and Text.
-/
import Derived.Test.YtochodombojamaaDoorNormNormal
import Derived.Test.YtochodombojamaaDoorNormRef
import Derived.Test.YtochodombojamaaDoorUtfFixed
namespace Go.Proofs.YtochodombojamaaDoor.Norm
open Go.Shelf Go.RowKit Go.Sort
open Utf hiding infoI32 rd_new own_form below_drewN new_any write_any close_any
open Ucd hiding grow same Told

/-- the code points of a text -/
def runesF (l : List UInt8) : List Int := (dec false 0 l).map fun q => (q.r : Int)
/-- the normal form of a text, as bytes -/
def textF (l : List UInt8) : List UInt8 := enc (normal (runesF l))
theorem runes_len (l : List UInt8) : (runesF l).length ≤ l.length := by
  unfold runesF
  rw [List.length_map]
  exact dec_len_le false l 0

set_option maxHeartbeats 4000000 in
set_option maxRecDepth 100000 in
theorem numbers_any (A : Option Addr) (l : List UInt8) (m c : Nat) (w : World) (hr : Rd w w.heap.size A (bys l)) (hm : l.length = m) (hc : m ≤ c) (hcm : c ≤ 9223372036854775807) (hb : m ≤ 34359738368) :
    Calls Tryd.prog 24 #[.slice A m c] w (Mine w.heap.size w (runesF l)) := by
  obtain ⟨i0, hi, hz0, hz1, hz2⟩ := info_parts infoI32
  have HD := Lib.hid (decode_any A l m c w hr hm hc hcm (by omega))
  have hl := dec_len_le false l 0
  rw [hm] at hl
  have HE := Lib.hid (show runesF l = (dec false 0 l).map fun q => (q.r : Int) from rfl)
  generalize dec false 0 l = ps at HD HE hl
  obtain ⟨B0, hB0⟩ : ∃ B0, B0 = w.heap.size := ⟨_, rfl⟩
  have HB0 := Lib.hid hB0
  rw [HE.out, ← hB0]
  clear hr hm hB0
  go_enter Tryd.func24, Tryd.ntmps24
  go_wp2_with fail
  refine HD.out.mono ?_
  rintro e w1 ⟨v, rfl, ho, hb1⟩
  rw [← HB0.out] at ho hb1
  obtain ⟨A1, c1, rfl, _, _, hr1⟩ := own_form ho
  have HR1 := Lib.hid hr1
  have HB1 := Lib.hid hb1
  obtain ⟨n, hn⟩ : ∃ n, n = ps.length := ⟨_, rfl⟩
  rw [← hn] at hl ⊢
  have HN := Lib.hid hn
  have HW1 := Lib.hid (show B0 ≤ w1.heap.size by have := hb1.size; have := HB0.out; omega)
  have HG := Lib.hid (fun g (h : (Value.slice A1 ps.length c1).ownBlock = some g) => ho.lt g h)
  clear ho hb1 hr1 hn HD
  go_wp2_with fail
  go_loopw [3, 9] (fun vo i wr => ∃ k : Nat, k ≤ n ∧ i = .int .i64 k ∧ Hid (wr.ownsRow w1.heap.size 21 1 vo ((ps.take k).map fun q => (q.r : Int)).length (nums ((ps.take k).map fun q => (q.r : Int)))) ∧ Hid (Below w1.heap.size w1 wr)) (fun _ i _ => n - (intOf i).toNat)
  case atStart => exact ⟨0, Nat.zero_le _, rfl, Lib.hid (World.ownsRow_nil _ _ _ _), Lib.hid (Below.refl _ _)⟩
  case round =>
    obtain ⟨k, hk, rfl, HO, HB⟩ := hrel
    by_cases hlt : k < n
    · have hkl : k < ps.length := by rw [← HN.out]; exact hlt
      obtain ⟨b, o, rfl, hbl⟩ := HR1.out.form (by rw [pts_len]; omega)
      obtain ⟨p1, p2, p3⟩ := (HR1.out.below HB.out).pt hkl
      have HT := Lib.hid (show (ps.take (k + 1)).map (fun q => (q.r : Int)) = (ps.take k).map (fun q => (q.r : Int)) ++ [(ps[k].r : Int)] by rw [List.take_succ_eq_append_getElem hkl, List.map_append]; rfl)
      have hlen : ((ps.take k).map fun q => (q.r : Int)).length = k := by rw [List.length_map, List.length_take]; omega
      generalize (ps.take k).map (fun q => (q.r : Int)) = L at HO HT hlen
      have hbw := HB.out.size
      rw [hlen] at HO
      have HLN := Lib.hid hlen
      obtain ⟨x, hx⟩ : ∃ x : Int, x = (ps[k].r : Int) := ⟨_, rfl⟩
      obtain ⟨y, hy⟩ : ∃ y : Int, y = (ps[k].p : Int) := ⟨_, rfl⟩
      obtain ⟨z, hz⟩ : ∃ z : Int, z = (ps[k].w : Int) := ⟨_, rfl⟩
      rw [← hx] at p1 HT
      rw [← hy] at p2
      rw [← hz] at p3
      have hbk : k ≤ 34359738368 := by omega
      clear hkl hx hy hz hlen hbl
      go_wp2_with (at_builtin; refine wpList_append_rd _ rfl (.tmp 13) (.tmp 16) _ rfl w1.heap.size 21 i0 _ 1 4 Tryd.underlying22 hi hz0 hz1 hz2 rfl (by decide) u3 k (nums L) rfl ((HO.out.alloc _).alloc _) _ (some ⟨wr.heap.size + 1, 0, none⟩) 1 1 [.int .i32 x] rfl rfl (rd_new _ _ [.int .i32 x] _ (by simp)) (nums_one [x]) (by unfold maxLen; omega) (by omega) (by simp; omega) ?_; intro v6 w6 hown6 hgr6 _)
      have HO6 := Lib.hid (show w6.ownsRow w1.heap.size 21 1 v6 ((ps.take (k + 1)).map fun q => (q.r : Int)).length (nums ((ps.take (k + 1)).map fun q => (q.r : Int))) by
        rw [HT.out, List.length_append, HLN.out, nums_append]; exact hown6)
      have HB6 := Lib.hid (((HB.out.alloc hbw _).alloc (by simp; omega) _).grown hgr6 (by simp; omega) (fun g hg => (HO.out.lt g hg).1))
      clear hown6 hgr6 HO HT
      go_roundw
      case rel => exact ⟨k + 1, by omega, by go_num, HO6, HB6⟩
      case measure => simp [intOf]; omega
    · have HXT := Lib.hid (show ps.take k = ps by rw [List.take_of_length_le (by rw [← HN.out]; omega)])
      rw [HXT.out] at HO
      go_wp2
      go_ret
      exact ⟨u3, rfl, own_mono HO.out HW1.out, HB1.out.trans (HB.out.mono HW1.out)⟩

theorem text_any (A : Option Addr) (l : List UInt8) (m c : Nat) (w : World) (hL : Laid w) (hr : Rd w w.heap.size A (bys l)) (hm : l.length = m) (hc : m ≤ c) (hcm : c ≤ 9223372036854775807) (hb : m ≤ 34359738368) :
    Calls Tryd.prog 14 #[.slice A m c] w (Ret w (.string ⟨(textF l).toArray⟩)) := by
  have HC := Lib.hid (numbers_any A l m c w hr hm hc hcm hb)
  have hl := runes_len l
  rw [hm] at hl
  have HL := Lib.hid hL
  have HE := Lib.hid (show textF l = enc (normal (runesF l)) from rfl)
  have hnl : (normal (runesF l)).length ≤ 103079215104 := by have := nf_len (fulls (runesF l)); have := fulls_len (runesF l); unfold normal; omega
  generalize runesF l = R at HC hl HE hnl
  have HN := Lib.hid (fun (A : Option Addr) (c : Nat) (u : World) (h : Laid u) (hr : Rd u u.heap.size A (nums R)) => normal_any A R R.length c u h hr rfl (by omega))
  generalize normal R = X at HE HN hnl
  have HX := Lib.hid hnl
  clear hL hr hm hl hnl
  go_enter Tryd.func14, Tryd.ntmps14
  go_wp2_with fail
  refine HC.out.mono ?_
  rintro e w1 ⟨v, rfl, ho, hb1⟩
  obtain ⟨A1, c1, rfl, _, _, hr1⟩ := own_form ho
  have HR1 := Lib.hid hr1
  have HB1 := Lib.hid hb1
  have HL1 := Lib.hid (HL.out.next hb1)
  clear ho hr1 hb1
  go_wp2_with fail
  refine (HN.out A1 c1 w1 HL1.out HR1.out).mono ?_
  rintro e w2 ⟨v, rfl, ho, hb2⟩
  obtain ⟨A2, c2, rfl, _, _, hr2⟩ := own_form ho
  have HR2 := Lib.hid hr2
  have HB2 := Lib.hid (HB1.out.trans (hb2.mono HB1.out.size))
  clear ho hr2 hb2
  go_wp2_with fail
  refine (encode_any A2 X X.length c2 w2 HR2.out rfl (by have := HX.out; omega)).mono ?_
  rintro e w3 ⟨v, rfl, ho, hb3⟩
  obtain ⟨A3, c3, rfl, _, _, hr3⟩ := Utf.own_form ho
  have hcv := conv_rd (c := c3) hr3 rfl
  rw [← HE.out] at hcv ⊢
  have HB3 := Lib.hid (HB2.out.trans (hb3.mono HB2.out.size))
  clear ho hr3 hb3
  go_wp2_with fail
  go_ret
  exact ⟨rfl, HB3.out⟩
/-- what '[]byte(s)' lays reads as the text's bytes -/
theorem rd_str (w : World) (s : ByteArray) (cap : Nat) (t : TypeId) (fr : Nat × Nat) (u : World) (hu : u = w.drew.alloc (.cells (bytesRow s cap) t fr)) : Rd u u.heap.size (some ⟨w.heap.size, 0, none⟩) (bys s.data.toList) ∧ Below w.heap.size w u := by
  subst hu
  refine ⟨fun _ => ⟨w.heap.size, 0, rfl, by simp, fun j v hv => ?_⟩, (Below.refl _ _).drew.alloc (Nat.le_refl _) _⟩
  have hj : j < s.data.size := by
    have := (List.getElem?_eq_some_iff.1 hv).1
    simpa [bys] using this
  rw [cell_of_row (w.drew.alloc (.cells (bytesRow s cap) t fr)) w.heap.size (0 + j) _ t fr (heap_alloc_new w.drew _)]
  rw [← hv, Nat.zero_add, bytesRow, Array.getElem?_append_left (by simpa using hj)]
  simp [bys]
theorem runes_any (s : ByteArray) (w : World) (hb : s.size ≤ 34359738368) : Calls Tryd.prog 15 #[.string s] w (Mine w.heap.size w (runesF s.data.toList)) := by
  have hcv := run_bytes_of_string (P := Tryd.prog) w 9 36 5 s Tryd.underlying9 Tryd.underlying36 Tryd.underlying5
  have hge := grownCap_ge w s.size 0 5
  have hle := grownCap_le_maxLen w s.size 0 5 (by unfold maxLen; omega)
  generalize grownCap w s.size 0 5 = cap at hcv hge hle
  unfold maxLen at hle
  obtain ⟨u, hu⟩ : ∃ u, u = w.drew.alloc (.cells (bytesRow s cap) 5 ((bytesRow s cap).size, (bytesRow s cap).size + 1)) := ⟨_, rfl⟩
  rw [← hu] at hcv
  obtain ⟨hrd, hbl⟩ := rd_str w s cap _ _ u hu
  have HC := Lib.hid (numbers_any (some ⟨w.heap.size, 0, none⟩) s.data.toList s.size cap u hrd (show s.data.toList.length = s.data.size from Array.length_toList) hge (by omega) hb)
  have HB := Lib.hid hbl
  clear hu hrd hbl hge hle hb
  generalize runesF s.data.toList = R at HC ⊢
  go_enter Tryd.func15, Tryd.ntmps15
  go_wp2_with fail
  refine HC.out.mono ?_
  rintro e w1 ⟨v, rfl, ho, hb1⟩
  have HO := Lib.hid ho
  have HB1 := Lib.hid hb1
  clear ho hb1
  go_wp2_with fail
  go_ret
  exact ⟨v, rfl, own_mono HO.out HB.out.size, HB.out.trans (HB1.out.mono HB.out.size)⟩
end Go.Proofs.YtochodombojamaaDoor.Norm
