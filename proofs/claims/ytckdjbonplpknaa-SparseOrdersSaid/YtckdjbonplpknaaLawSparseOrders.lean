/-
  Whatever size and whatever numbers there are: a set's numbers stand in the order of their first coming, each once, and are found by their place. Conditions: none.
-/
import Derived.Test.YtckdjbonplpknaaSparseOpen
import Derived.Deep.DeepCutAuto
namespace Go.Proofs.Ytckdjbonplpknaa.LawSparseOrders
open Go.ChangeShapes Go.WideShapes Go.ChangeAt Go.RowKit Mem Sparse
set_option maxRecDepth 100000


/-- a set, and a list of the caller's own that reads as it -/
structure Both (B : Nat) (w wr : World) (g p N : Nat) (a u : Value) (cur : List Int) : Prop where
  list : wr.ownsRow B 3 1 a cur.length (ks .i64 cur)
  set : SI wr B g p u N cur
  apart : ∀ i, a.ownBlock = some i → ¬ Ft g p u i
  below : Below B w wr
theorem Both.did {B : Nat} {w wr w1 : World} {g p N : Nat} {a u u' : Value} {cur nxt : List Int} (h : Both B w wr g p N a u cur) (h1 : SI w1 B g p u' N nxt) (hc : Chg wr w1 (Ft g p u)) (hg : Grew wr u u') (hB : B ≤ wr.heap.size) :
    w1.ownsRow B 3 1 a cur.length (ks .i64 cur) ∧ SI w1 B g p u' N nxt ∧ (∀ i, a.ownBlock = some i → ¬ Ft g p u' i) ∧ Below B w w1 :=
  ⟨own_keep h.list hc fun i hi => h.apart i hi, h1, fun i hi hf => h.apart i hi (ft_grew hg (h.list.lt i hi).2 hf), h.below.trans (hc.below hB fun _ hi => h.set.low hi)⟩
theorem Both.more {B : Nat} {w w1 w2 w3 : World} {g p N n : Nat} {a a' u : Value} {cur : List Int} {x : Int} (h1 : w1.ownsRow B 3 1 a cur.length (ks .i64 cur))
    (h2 : SI w1 B g p u N (cur ++ [x])) (h3 : ∀ i, a.ownBlock = some i → ¬ Ft g p u i) (h4 : Below B w w1) (hb : Below w1.heap.size w1 w2) (hB : B ≤ w1.heap.size)
    (hn : n = cur.length) (ho : w3.ownsRow B 3 1 a' (n + 1) (ks .i64 cur ++ [.int .i64 x])) (hg : w2.grownBy w3 a.ownBlock) (ha : a'.ownBlock = a.ownBlock ∨ a'.ownBlock = some w2.heap.size) : Both B w w3 g p N a' u (cur ++ [x]) := by
  subst hn
  have hc : Chg w1 w3 (fun i => a.ownBlock = some i) := (Chg.of_below hb (Nat.le_refl _)).grown hg fun i _ e => e
  refine ⟨?_, h2.keep hc fun i hf e => h3 i e hf, fun i hi hf => ?_, h4.trans (hc.below hB fun i hi e => ?_)⟩
  · rw [List.length_append, ks_append]; exact ho
  · rcases ha with ha | ha
    · rw [ha] at hi; exact h3 i hi hf
    · rw [ha] at hi
      injection hi with hi
      have := (h2.hers hf).2
      have := hb.size
      omega
  · have := (h1.lt i e).1
    omega
def puts (N : Nat) (l : List Int) : List Int := l.foldl (put N) []
theorem puts_snoc (N : Nat) (l : List Int) (x : Int) : puts N (l ++ [x]) = put N (puts N l) x := by unfold puts; rw [List.foldl_append]; rfl
theorem fresh_and (N : Nat) (l : List Int) (x : Int) : fresh N l x = (decide (0 ≤ x ∧ x < N) && decide (x ∉ l)) := by
  unfold fresh
  rw [Bool.eq_iff_iff]
  simp [and_assoc]
theorem mem_take_succ {l : List Int} {x : Int} {j : Nat} (h : j < l.length) : decide (x ∉ l.take (j + 1)) = (decide (x ∉ l.take j) && (l[j] != x)) := by
  rw [List.take_succ_eq_append_getElem h, Bool.eq_iff_iff]
  simp only [List.mem_append, List.mem_singleton, decide_eq_true_eq, Bool.and_eq_true, bne_iff_ne, ne_eq, not_or]
  constructor
  · rintro ⟨h1, h2⟩; exact ⟨h1, fun e => h2 e.symm⟩
  · rintro ⟨h1, h2⟩; exact ⟨h1, fun e => h2 e.symm⟩
set_option maxHeartbeats 8000000 in
theorem walk (size : Int) (A : Option Addr) (l : List Int) (m c : Nat) (w : World) (h1 : -9223372036854775808 ≤ size) (h2 : size ≤ 9223372036854775807) (hr : Rd w w.heap.size A (ks .i64 l)) (hm : l.length = m)
    (hx : ∀ x ∈ l, -9223372036854775808 ≤ x ∧ x ≤ 9223372036854775807) (hsm : m ≤ 17592186044415) :
    Calls Try.prog 6 #[.int .i64 size, .slice A m c] w (Law w) := by
  obtain ⟨i0, hi, hz0, hz1, hz2⟩ := info_parts infoInt
  have HF := Lib.hid (fixed_any w)
  have HM := Lib.hid hm; have HX := Lib.hid hx; have HR := Lib.hid hr
  clear hm hx hr
  go_enter Try.func6, Try.ntmps6
  go_wp2_with fail
  refine HF.out.mono ?_
  rintro e w1 ⟨rfl, hb1⟩
  have HB1 := Lib.hid hb1
  have HNEW := Lib.hid (new_int size w1 h1 h2)
  clear hb1 HF
  go_wp2_with fail
  refine HNEW.out.mono ?_
  rintro e w2 ⟨g, p, rfl, k1, k2⟩
  obtain ⟨N, hN⟩ : ∃ N, N = room size := ⟨_, rfl⟩
  rw [← hN] at k1
  have HN := Lib.hid hN
  have hNle : N ≤ 65536 := hN ▸ room_le size
  obtain ⟨B, hB⟩ : ∃ B, B = w1.heap.size := ⟨_, rfl⟩
  rw [← hB] at k1 k2
  have HB := Lib.hid hB
  have HBO := Lib.hid (show Both B w1 w2 g p N (.slice none 0 0) (.slice none 0 0) (puts N (l.take 0)) from ⟨World.ownsRow_nil _ _ _ _, k1, fun i hi => by simp [Value.ownBlock] at hi, k2⟩)
  clear k1 k2 hN hB HNEW
  go_wp2_with fail
  go_loopw [6, 24] (fun av i wr => ∃ (k : Nat) (u : Value), k ≤ m ∧ i = .int .i64 k ∧ Hid (Both B w1 wr g p N av u (puts N (l.take k)))) (fun _ i _ => m - (intOf i).toNat)
  case atStart => exact ⟨0, _, Nat.zero_le _, rfl, HBO⟩
  case round =>
    obtain ⟨wo, hwo⟩ : ∃ wo : World, wo = wr := ⟨_, rfl⟩
    subst hwo
    obtain ⟨k, u, hk, rfl, HT⟩ := hrel
    clear HBO
    have HW := Lib.hid (show B ≤ wo.heap.size by have := HT.out.below.size; rw [HB.out]; exact this)
    have hwr : Below w.heap.size w wo := HB1.out.trans (HT.out.below.mono (by rw [HB.out]; exact HB1.out.size))
    have HWR := Lib.hid hwr
    have hlist := HT.out.list
    have hfew := HT.out.set.few
    by_cases hlt : k < m
    · have hkl : k < l.length := by rw [HM.out]; exact hlt
      obtain ⟨b, o, rfl, _⟩ := rd_form HR.out (by omega)
      have c1 := rd_k (HR.out.below hwr) hkl
      have hxo := HX.out _ (List.getElem_mem hkl)
      have hts : l.take (k + 1) = l.take k ++ [l[k]] := List.take_succ_eq_append_getElem hkl
      obtain ⟨x, hq⟩ : ∃ x, x = l[k] := ⟨_, rfl⟩
      rw [← hq] at c1 hxo hts
      obtain ⟨cur, hcur⟩ : ∃ cur, cur = puts N (l.take k) := ⟨_, rfl⟩
      rw [← hcur] at hlist hfew HT
      have HTS := Lib.hid (show puts N (l.take (k + 1)) = put N cur x by rw [hts, puts_snoc, hcur])
      have HA := Lib.hid (add_int x B g p N u cur wo HT.out.set hxo.1 hxo.2)
      obtain ⟨n, hn⟩ : ∃ n, n = cur.length := ⟨_, rfl⟩
      rw [← hn] at hlist hfew
      obtain ⟨A3, ca3, rfl, _, _, hr3⟩ := own_form hlist
      have HNL := Lib.hid hn
      have HR3 := Lib.hid hr3
      have HL3 := Lib.hid hlist
      obtain ⟨f0, hf0⟩ : ∃ f0, f0 = decide (0 ≤ x ∧ x < (N : Int)) := ⟨_, rfl⟩
      have HF0 := Lib.hid hf0
      have HFR := Lib.hid (fresh_and N cur x)
      rw [← hf0] at HFR
      clear hts hcur hq hkl hlist hwr hn hr3 hf0 hxo
      go_upto_region 8 with fail
      go_cut [9] (fun s wx => s = .bool f0 ∧ Hid (wo = wx))
      case first => as_aux_lemma =>
        by_cases e1 : 0 ≤ x
        · have d1 : decide ((0 : Int) ≤ x) = true := decide_eq_true e1
          by_cases e2 : size < 0
          · have hN0 := room_neg e2
            have d2 : ¬ x < 0 := by omega
            have d3 : decide (x < 0) = false := decide_eq_false d2
            obtain rfl : f0 = false := by rw [HF0.out, HN.out, hN0]; exact decide_eq_false (by omega)
            clear hN0
            go_wp2_with fail
            go_meet
            exact ⟨rfl, Lib.hid rfl⟩
          by_cases e3 : (65536 : Int) < size
          · have hN0 := room_big e3
            by_cases d2 : x < 65536
            · have d3 : decide (x < 65536) = true := decide_eq_true d2
              obtain rfl : f0 = true := by rw [HF0.out, HN.out, hN0]; exact decide_eq_true ⟨e1, d2⟩
              clear hN0
              go_wp2_with fail
              go_meet
              exact ⟨rfl, Lib.hid rfl⟩
            · have d3 : decide (x < 65536) = false := decide_eq_false d2
              obtain rfl : f0 = false := by rw [HF0.out, HN.out, hN0]; exact decide_eq_false fun h => d2 h.2
              clear hN0
              go_wp2_with fail
              go_meet
              exact ⟨rfl, Lib.hid rfl⟩
          · have hN0 := room_mid e2 e3
            by_cases d2 : x < size
            · have d3 : decide (x < size) = true := decide_eq_true d2
              obtain rfl : f0 = true := by rw [HF0.out, HN.out, hN0]; exact decide_eq_true ⟨e1, d2⟩
              clear hN0
              go_wp2_with fail
              go_meet
              exact ⟨rfl, Lib.hid rfl⟩
            · have d3 : decide (x < size) = false := decide_eq_false d2
              obtain rfl : f0 = false := by rw [HF0.out, HN.out, hN0]; exact decide_eq_false fun h => d2 h.2
              clear hN0
              go_wp2_with fail
              go_meet
              exact ⟨rfl, Lib.hid rfl⟩
        · have d1 : decide ((0 : Int) ≤ x) = false := decide_eq_false e1
          obtain rfl : f0 = false := by rw [HF0.out]; exact decide_eq_false fun h => e1 h.1
          go_wp2_with fail
          go_meet
          exact ⟨rfl, Lib.hid rfl⟩
      case rest =>
        obtain ⟨rfl, hw⟩ := hcut
        obtain rfl := hw.out
        clear hw
        go_wp2_with fail
        go_loopw [9, 39] (fun fr j wi => ∃ i : Nat, i ≤ n ∧ j = .int .i64 i ∧ Hid (fr = .bool (f0 && decide (x ∉ cur.take i))) ∧ wo = wi) (fun _ j _ => n - (intOf j).toNat)
        case atStart => exact ⟨0, Nat.zero_le _, rfl, Lib.hid (by simp), rfl⟩
        case round =>
          obtain ⟨i, hi2, rfl, HFRI, rfl⟩ := hrel
          obtain ⟨F, hF⟩ : ∃ F, F = (f0 && decide (x ∉ cur.take i)) := ⟨_, rfl⟩
          have hu9 := HFRI.out
          rw [← hF] at hu9
          subst hu9
          have HFF := Lib.hid hF
          clear HFRI hF
          by_cases hltn : i < n
          · have hic : i < cur.length := by rw [← HNL.out]; exact hltn
            obtain ⟨b3, o3, rfl, _⟩ := rd_form HR3.out (by omega)
            have c3 := rd_k HR3.out hic
            have hms := mem_take_succ (x := x) hic
            obtain ⟨y, hy⟩ : ∃ y, y = cur[i] := ⟨_, rfl⟩
            rw [← hy] at c3 hms
            have HMS := Lib.hid (show (f0 && decide (x ∉ cur.take (i + 1))) = (F && (y != x)) by rw [hms, HFF.out, Bool.and_assoc])
            clear hms hy hic
            cases F with
            | false =>
              go_wp2_with fail
              go_roundw
              case rel => exact ⟨i + 1, by omega, by go_num, Lib.hid (by rw [HMS.out]; rfl), trivial⟩
              case measure => simp [intOf]; omega
            | true =>
              obtain ⟨q, hq⟩ : ∃ q, q = (y != x) := ⟨_, rfl⟩
              have HQ := Lib.hid hq
              have hq2 : (y != x) = q := hq.symm
              clear hq
              cases q with
              | false =>
                go_wp2_with fail
                go_roundw
                case rel => exact ⟨i + 1, by omega, by go_num, Lib.hid (by rw [HMS.out, ← HQ.out]; rfl), trivial⟩
                case measure => simp [intOf]; omega
              | true =>
                go_wp2_with fail
                go_roundw
                case rel => exact ⟨i + 1, by omega, by go_num, Lib.hid (by rw [HMS.out, ← HQ.out]; rfl), trivial⟩
                case measure => simp [intOf]; omega
          · have HFN := Lib.hid (show F = fresh N cur x by
              rw [HFF.out, HFR.out, List.take_of_length_le (by rw [← HNL.out]; omega)])
            have hF2 : fresh N cur x = F := HFN.out.symm

            cases F with
            | false =>
              have HNX := Lib.hid (put_no hF2)
              have hF3 := Lib.hid hF2
              clear hF2
              go_wp2_with (first
                | (go_at_call 18; refine HA.out.mono ?_; rintro e4 w4 ⟨u4, he, k1, k2, k3⟩; rw [hF3.out] at he; subst he; rw [HNX.out] at k1; obtain ⟨j1, j2, j3, j4⟩ := HT.out.did k1 k2 k3 HW.out; have HT4 := Lib.hid (Both.mk j1 j2 j3 j4); clear k1 k2 k3 j1 j2 j3 j4))
              go_roundw
              case rel => exact ⟨k + 1, u4, by omega, by go_num, by rw [HTS.out, HNX.out]; exact HT4⟩
              case measure => simp [intOf]; omega
            | true =>
              have HNX := Lib.hid (put_yes hF2)
              have hF3 := Lib.hid hF2
              clear hF2
              go_wp2_with (first
                | (go_at_call 18; refine HA.out.mono ?_; rintro e4 w4 ⟨u4, he, k1, k2, k3⟩; rw [hF3.out] at he; subst he; rw [HNX.out] at k1; obtain ⟨j1, j2, j3, j4⟩ := HT.out.did k1 k2 k3 HW.out; have J1 := Lib.hid j1; have J2 := Lib.hid j2; have J3 := Lib.hid j3; have J4 := Lib.hid j4; have J5 := Lib.hid (Nat.le_trans HW.out k2.size); clear k1 k2 k3 j1 j2 j3 j4)
                | (at_builtin; refine wpList_append_rd _ rfl (.tmp 56) (.tmp 58) _ rfl B 3 i0 _ 1 8 Try.underlying24 hi hz0 hz1 hz2 rfl (by decide) (.slice A3 n ca3) n (ks .i64 cur) rfl (own_below (by rw [HNL.out]; rw [HNL.out] at J1; exact J1.out) ((Below.refl _ _).alloc (Nat.le_refl _) _)) _ (some ⟨w4.heap.size, 0, none⟩) 1 1 [.int .i64 x] rfl rfl (rd_new _ _ [.int .i64 x] _ rfl) (ks_one .i64 [x]) (by unfold maxLen; omega) (by omega) (by have := J5.out; simp; omega) ?_; intro v6 w6 hown6 hgr6 hat6; have HT6 := Lib.hid (Both.more J1.out J2.out J3.out J4.out ((Below.refl _ _).alloc (Nat.le_refl _) _) J5.out HNL.out hown6 hgr6 hat6); clear hown6 hgr6 hat6))
              go_roundw
              case rel => exact ⟨k + 1, u4, by omega, by go_num, by rw [HTS.out, HNX.out]; exact HT6⟩
              case measure => simp [intOf]; omega
    · have hke : k = m := by omega
      subst hke
      have htk : l.take k = l := List.take_of_length_le (by rw [HM.out]; exact Nat.le_refl _)
      rw [htk] at HT hlist hfew
      clear htk hk
      obtain ⟨cur, hcur⟩ : ∃ cur, cur = puts N l := ⟨_, rfl⟩
      rw [← hcur] at hlist hfew HT
      have HS := Lib.hid HT.out.set
      have HBE := Lib.hid hwr
      obtain ⟨n, hn⟩ : ∃ n, n = cur.length := ⟨_, rfl⟩
      rw [← hn] at hlist hfew
      obtain ⟨A3, ca3, rfl, _, _, hr3⟩ := own_form hlist
      have HNL := Lib.hid hn
      have HR3 := Lib.hid hr3
      clear hlist hwr hcur hn hr3 HX HR HWR
      go_wp2_with fail
      go_loopw [63] (fun j wi => ∃ i : Nat, i ≤ n ∧ j = .int .i64 i ∧ wo = wi) (fun j _ => n - (intOf j).toNat)
      case atStart => exact ⟨0, Nat.zero_le _, rfl, rfl⟩
      case round =>
        obtain ⟨i, hi2, rfl, rfl⟩ := hrel
        by_cases hltn : i < n
        · have hic : i < cur.length := by rw [← HNL.out]; exact hltn
          obtain ⟨b3, o3, rfl, _⟩ := rd_form HR3.out (by omega)
          have c3 := rd_k HR3.out hic
          have HAT := Lib.hid (at_int (i : Int) B g p N u cur wo HS.out)
          rw [nth_at hic] at HAT
          have hmem := List.getElem_mem hic
          obtain ⟨y, hy⟩ : ∃ y, y = cur[i] := ⟨_, rfl⟩
          rw [← hy] at c3 HAT hmem
          have hyb := HS.out.inn _ hmem
          have HHS := Lib.hid (has_int y B g p N u cur wo HS.out (by omega) (by omega))
          rw [decide_eq_true hmem] at HHS
          have hyy : (y != y) = false := by simp
          clear hy hic hmem hyb
          go_wp2_with (first
            | (go_at_call 31; refine HAT.out.mono ?_; rintro e5 w5 ⟨rfl, rfl⟩)
            | (go_at_call 22; refine HHS.out.mono ?_; rintro e6 w6 ⟨rfl, rfl⟩))
          go_roundw
          case rel => exact ⟨i + 1, by omega, by go_num, trivial⟩
          case measure => simp [intOf]; omega
        · have HAT := Lib.hid (at_int (n : Int) B g p N u cur wo HS.out)
          rw [nth_past (by rw [HNL.out]; omega)] at HAT
          have HLN := Lib.hid (len_int B g p N u cur wo HS.out)
          rw [← HNL.out] at HLN
          have HVL := Lib.hid (values_int B g p N u cur wo HS.out)
          clear hi2
          go_wp2_with (first
            | (go_at_call 31; refine HAT.out.mono ?_; rintro e5 w5 ⟨rfl, rfl⟩)
            | (go_at_call 30; refine HLN.out.mono ?_; rintro e6 w6 ⟨rfl, rfl⟩)
            | (go_at_call 26; refine HVL.out.mono ?_; rintro e7 w7 ⟨v7, rfl, k1, k2⟩; rw [← HNL.out] at k1; obtain ⟨A7, ca7, rfl, _, _, hr7⟩ := own_form k1; have HB7 := Lib.hid k2; have HQ := Lib.hid (same_yes A7 A3 cur cur n n ca7 ca3 w7 hr7 ((HR3.out.below k2).more k2.size) HNL.out.symm HNL.out.symm (by omega) rfl); clear k1 k2 hr7)
            | (go_at_call 10; refine HQ.out.mono ?_; rintro e8 w8 ⟨rfl, h8⟩; have HB8 := Lib.hid h8; clear h8))
          go_ret
          exact ⟨rfl, HBE.out.trans ((HB7.out.trans (HB8.out.mono HB7.out.size)).mono HBE.out.size)⟩

theorem contract (H : Type) (enc : TypeId × Value → H) (W : World) (base : Nat) (args : Array Value) (ds gs : List (DataW H)) (before : List MemPlace)
    (hval : ∀ (j : Nat) t v, Try.f6.params[j]? = some t → args[j]? = some v → Value.okWide Try.prog W .any base t v)
    (hW : DataW.Whole enc Try.prog Try.f6.params.toList Rows.sparseOrdersSpec.vars false W args.toList ds gs before) (hsz0 : (DataW.weightsEach Try.prog (Try.f6.params.toList ++ Rows.sparseOrdersSpec.plain.varTypes Try.prog) (ds ++ gs)).all (· ≤ reachBytes) = true) :
    Calls Try.prog 6 args W fun e W' => ∃ v, e = .returned v ∧ Rows.sparseOrdersSpec.post enc Try.prog Try.f6 false true false false W args v W' := by
  have hW' := hW
  obtain ⟨p, q, hA0, hV, rfl, hfz, hnd⟩ := hW
  have hA : DataW.TrodAll enc Try.prog W 0 (fun _ => true) true Try.f6.params.toList args.toList ds p := hA0
  have hsz := hsz0
  rw [Try.params6] at hA hval hsz
  obtain ⟨v0, vs0, d0, ds0, p0, q0, hargs, rfl, rfl, h0, r0⟩ := trodAll_cons hA
  obtain ⟨v1, vs1, d1, ds1, p1, q1, rfl, rfl, rfl, h1, r1⟩ := trodAll_cons r0
  obtain ⟨rfl, rfl, rfl⟩ := trodAll_nil r1
  obtain rfl : args = #[v0, v1] := by cases args; simp_all
  obtain ⟨rfl, rfl⟩ := trodVars_none hV
  obtain ⟨z0, rfl, rfl, rfl, w00⟩ := open_int Try.underlying3 (hval 0 3 v0 rfl rfl) h0
  have w0 := i64_bounds w00
  obtain ⟨a1, len1, cap1, rfl⟩ := okWide_slice Try.underlying24 (hval 1 24 v1 rfl rfl)
  have k1 := h1
  have lt1 : ∀ x ∈ p1, x.block < W.heap.size := by obtain ⟨m, hm⟩ := k1; exact DataW.trod_lt m _ _ _ hm
  obtain ⟨l1, hl1, hc1, hm1, hw1, hr1, hb1, hd1⟩ := open_ks (k := .i64) Try.underlying24 Try.underlying3 (by kernel_rfl) h1
  have reach1 := reach_of (by_ := 8) hsz (j := 1) (t := 24) rfl rfl Try.underlying24 (by kernel_rfl) hd1
  clear hA0
  refine (walk z0 a1 l1 len1 cap1 W w0.1 w0.2 hr1 hl1 (fun x hx => i64_bounds (hw1 x hx)) (by omega)).mono fun e W' ⟨he, bel⟩ => ?_
  subst he
  exact ⟨_, rfl, _, _, _, [], _, [], hW', trodAll_mk1 (shut_bool Try.underlying4 _), (trodAll_cons_mk (shut_int Try.underlying3 w00) (trodAll_cons_mk (Below.trod laidOut (by kernel_rfl) (of_decide_eq_true (by kernel_rfl)) k1 bel lt1) trodAll_mk0)), rfl, bel.frame _, fun h => by cases h⟩

set_option maxRecDepth 100000 in
theorem lifted (os : Os) (started : os.Started) (H : Type) (enc : TypeId × Value → H) :
    ReturnsInHanded {} Try.checked os 6 .any (Rows.sparseOrdersSpec.pre6 enc Try.prog Try.f6 Rows.sparseOrdersRow.domain false) (Rows.sparseOrdersSpec.post enc Try.prog Try.f6 false true false false) := by
  refine returnsInHanded_of_change_sized (C := Try.checked) own started (by kernel_rfl) Try.func6
    (ChangeSpec.witness6 (enc := enc) (C := Try.checked) false ⟨#[], #[.int .i64 0, .slice none 0 0], []⟩ 8 (by kernel_rfl) (by kernel_rfl) (by kernel_rfl) (by kernel_rfl)) ?_
  intro W base args ds gs before hval hW _ hsz _
  exact contract H enc W base args ds gs before hval hW hsz

/-- THE STATEMENT -/
theorem proved : Rows.SparseOrdersSaid :=
  OpenClaim.holds_of_wide 6 Try.f6 rfl rfl rfl rfl rfl rfl rfl ⟨rfl, rfl, rfl, rfl, rfl⟩ rfl rfl rfl rfl rfl (by kernel_rfl) Try.func6 (by kernel_rfl)
    (of_decide_eq_true (by kernel_rfl)) (by unfold Func.isWrapper; first | (rw [if_pos (by decide +kernel)]; kernel_rfl) | (rw [if_neg (by decide +kernel)]; exact ⟨rfl, rfl⟩))
    (fun os started H enc _ => lifted os started H enc)
end Go.Proofs.Ytckdjbonplpknaa.LawSparseOrders
