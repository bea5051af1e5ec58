/-
  CONTRACT OF slices.symMergeCmpFunc: two sorted neighbours become one sorted stretch, each key's elements in their order.
-/
import Derived.Test.YtochodombojamaaDoorNormSym2
namespace Go.Proofs.YtochodombojamaaDoor.Norm
open Go.Shelf Go.RowKit Go.Sort

/-- what a merge of two neighbours is told and gives, as a statement on all lesser ones -/
def SymAll (key : Int → Int) (g blk off cap N : Nat) (w0 : World) (sz : Nat) : Prop :=
  ∀ (a m b : Nat) (d : Array Int) (w : World), b - a ≤ sz → d.size = N → SW e32 w0 blk off d w → a < m → m < b → b ≤ N → Srt key a m d → Srt key m b d →
    Calls Tryd.prog 48 #[.slice (some ⟨blk, off, none⟩) N cap, .int .i64 a, .int .i64 m, .int .i64 b, .func (.func g) #[] #[]] w (MgEnd key blk off a b d w0)

set_option maxHeartbeats 16000000 in
set_option maxRecDepth 100000 in
theorem sym_ahead (key : Int → Int) (cf : Int → Int → Int) (g blk off cap a m b N sz mid : Nat) (d0 d : Array Int) (w0 w : World) (T : Told key cf g blk off N d0 w0) (IH : SymAll key g blk off cap N w0 sz) (hb1 : b - a ≤ sz + 1) (hN : d.size = N) (S : SW e32 w0 blk off d w)
    (ham1 : a + 1 < m) (hmb1 : m + 1 < b) (hb : b ≤ N) (hA : Srt key a m d) (hB : Srt key m b d) (hmid : mid = (a + b) / 2) (hmm : mid < m) :
    Calls Tryd.prog 48 #[.slice (some ⟨blk, off, none⟩) N cap, .int .i64 a, .int .i64 m, .int .i64 b, .func (.func g) #[] #[]] w (MgEnd key blk off a b d w0) := by
  have mixed : Tryd.prog.follows .mixedOrders = true := by kernel_rfl
  have hsz := T.small
  have eg := T.enters
  have HT := Lib.hid T
  have HS := Lib.hid S
  have HN := Lib.hid hN
  have HA := Lib.hid hA
  have HB := Lib.hid hB
  have HIH := Lib.hid IH
  have HMID := Lib.hid hmid
  have hma : ((m : Int) - (a : Int) == 1) = false := by simp; omega
  have hmb : ((b : Int) - (m : Int) == 1) = false := by simp; omega
  have ham : a < m := by omega
  have hmbl : m < b := by omega
  have hz : ((a : Int) + (b : Int)) / 2 = (mid : Int) := by omega
  have hmid1 : a < mid := by omega
  have hmid2 : mid < b := by omega
  have hgt : (mid : Int) < (m : Int) := by omega
  obtain ⟨n, hn⟩ : ∃ n, n = mid + m := ⟨_, rfl⟩
  have hnz : (mid : Int) + (m : Int) = (n : Int) := by omega
  have hn1 : 1 ≤ n := by omega
  have hn2 : n ≤ 2 * N := by omega
  obtain ⟨p, hp⟩ : ∃ p, p = n - 1 := ⟨_, rfl⟩
  have hpz : (n : Int) - 1 = (p : Int) := by omega
  obtain ⟨lo, hlo⟩ : ∃ lo, lo = n - b := ⟨_, rfl⟩
  have HL := Lib.hid (show a ≤ lo ∧ lo ≤ mid ∧ mid ≤ m ∧ mid ≤ mid ∧ n ≤ b + lo ∧ (lo = a ∨ n = b + lo) ∧ (mid = m ∨ n = m + mid) ∧ n = mid + m ∧ p + 1 = n by omega)
  have hloz : (n : Int) - (b : Int) = (lo : Int) := by omega
  have hle := HL.out.2.1
  have hpN : p ≤ 2 * N := by omega
  clear T S hN hA hB IH hmid hmm hn hp hlo
  go_enter Tryd.func48, Tryd.ntmps48
  go_wp2_with fail
  go_loopg [20, 21, 23] (mid - lo) (fun g1 vi vj vc wr => ∃ (i j : Nat), vi = .int .i64 i ∧ vj = .int .i64 j ∧ lo ≤ i ∧ i ≤ j ∧ j ≤ mid ∧ j - i ≤ g1 ∧ Hid (i = lo ∨ key d[i - 1]! ≤ key d[n - i]!) ∧ Hid (j = mid ∨ key d[p - j]! < key d[j]!) ∧ Hid (SW e32 w0 blk off d wr))
  case atStart => exact ⟨lo, mid, rfl, rfl, Nat.le_refl _, by omega, Nat.le_refl _, Nat.le_refl _, Lib.hid (.inl rfl), Lib.hid (.inl rfl), HS⟩
  case round =>
    clear HS
    obtain ⟨i, j, rfl, rfl, h1, h2, h3, hg, HI, HJ, HK⟩ := hrel
    by_cases hlt : i < j
    · have hltz : (i : Int) < (j : Int) := by omega
      obtain ⟨c, hc0⟩ : ∃ c : Nat, c = (i + j) / 2 := ⟨_, rfl⟩
      have hcz : ((i : Int) + (j : Int)) / 2 = (c : Int) := by omega
      have h4 : i ≤ c := by omega
      have h5 : c < j := by omega
      obtain ⟨q, hq⟩ : ∃ q, q = p - c := ⟨_, rfl⟩
      have HQ := Lib.hid (show q = n - (c + 1) ∧ q = p - c by have := HL.out; omega)
      have hqz : (p : Int) - (c : Int) = (q : Int) := by have := HL.out; omega
      have hq2 : (q : Int) < (N : Int) := by have := HL.out; omega
      have hc2 : (c : Int) < (N : Int) := by have := HL.out; omega
      have hqw : IntKind.i64.wrap (q : Int) = (q : Int) := by rw [IntKind.wrap_i64]; omega
      clear hc0 hq
      obtain ⟨x, hx⟩ : ∃ x, x = d[q]! := ⟨_, rfl⟩
      obtain ⟨y, hy⟩ : ∃ y, y = d[c]! := ⟨_, rfl⟩
      have l1 := HK.out.cl HT.out.row (by rw [HN.out, HT.out.size]) q (by rw [HN.out]; omega)
      have l2 := HK.out.cl HT.out.row (by rw [HN.out, HT.out.size]) c (by rw [HN.out]; omega)
      have hc := HK.out.cmp HT.out.cmp HN.out x y
      have HV := Lib.hid (HT.out.lt x y)
      rw [← hx] at l1
      rw [← hy] at l2
      have HX := Lib.hid hx
      have HY := Lib.hid hy
      clear hx hy
      by_cases hv : cf x y < 0
      · have hd : decide (cf x y < 0) = true := decide_eq_true hv
        have HJ2 := Lib.hid (show c = mid ∨ key d[p - c]! < key d[c]! from .inr (by rw [← HQ.out.2, ← HX.out, ← HY.out]; exact HV.out.1 hv))
        go_wp2_with fail
        go_quiet_grown (first | (go_at_fn g; refine Calls.grown_of (hc _ _)))
        have HK2 := Lib.hid (HK.out.grown nq osq)
        clear l1 l2 hc HK
        generalize grow (wr.drewN nq) osq = w2 at HK2 ⊢
        clear nq osq
        go_wp2_with fail
        go_roundg (c - i)
        case measure => omega
        case rel => exact ⟨i, c, rfl, rfl, by omega, by omega, by omega, Nat.le_refl _, HI, HJ2, HK2⟩
      · have hd : decide (cf x y < 0) = false := decide_eq_false hv
        have HI2 := Lib.hid (show c + 1 = lo ∨ key d[c + 1 - 1]! ≤ key d[n - (c + 1)]! from .inr (by rw [Nat.add_sub_cancel, ← HQ.out.1, ← HX.out, ← HY.out]; exact Int.not_lt.1 fun h => hv (HV.out.2 h)))
        go_wp2_with fail
        go_quiet_grown (first | (go_at_fn g; refine Calls.grown_of (hc _ _)))
        have HK2 := Lib.hid (HK.out.grown nq osq)
        clear l1 l2 hc HK
        generalize grow (wr.drewN nq) osq = w2 at HK2 ⊢
        clear nq osq
        go_wp2_with fail
        go_roundg (j - (c + 1))
        case measure => omega
        case rel => exact ⟨c + 1, j, by go_num, rfl, by omega, by omega, by omega, Nat.le_refl _, HI2, HJ, HK2⟩
    · have hltz : ¬ (i : Int) < (j : Int) := by omega
      obtain rfl : i = j := by omega
      obtain ⟨e, he⟩ : ∃ e, e = n - i := ⟨_, rfl⟩
      have hez : (n : Int) - (i : Int) = (e : Int) := by have := HL.out; omega
      have HE := Lib.hid (show e + i = mid + m ∧ a ≤ i ∧ i ≤ m ∧ i ≤ mid ∧ e ≤ b ∧ m ≤ e by have := HL.out; omega)
      have HLL := Lib.hid (show i = a ∨ e = b ∨ key d[i - 1]! ≤ key d[e]! by
        have := HL.out
        rcases HI.out with h | h
        · omega
        · rw [he]; exact .inr (.inr h))
      have HRR := Lib.hid (show i = m ∨ e = m ∨ key d[e - 1]! < key d[i]! by
        have := HL.out
        rcases HJ.out with h | h
        · omega
        · rw [show e - 1 = p - i from by omega]; exact .inr (.inr h))
      have HF := Lib.hid (fun d1 (r : Rot i m e d d1) => mg_parts HA.out HB.out ham hmbl HMID.out HE.out.1 HE.out.2.1 HE.out.2.2.1 HE.out.2.2.2.1 HE.out.2.2.2.2.1 HE.out.2.2.2.2.2 HLL.out HRR.out r)
      have heN : e ≤ N := by have := HE.out; omega
      have hie : m ≤ e := HE.out.2.2.2.2.2
      have him : i ≤ m := HE.out.2.2.1
      have himid : i ≤ mid := HE.out.2.2.2.1
      have hai : a ≤ i := HE.out.2.1
      clear HI HJ hlt HLL HRR hltz he hg h1 h2 h3
      have hem : e + i = mid + m := HE.out.1
      have heb : e ≤ b := HE.out.2.2.2.2.1
      clear HE HL HA HB HMID
      by_cases h1 : i < m ∧ m < e
      · have q1 : (i : Int) < (m : Int) := by omega
        have q2 : (m : Int) < (e : Int) := by omega
        have HC := Lib.hid h1
        clear h1
        go_wp2_with fail
        refine (rotate_any blk off cap i m e N d0 d w0 _ (.func (.func g) #[] #[]) HT.out.row HT.out.size HN.out HK.out HC.out.1 HC.out.2 heN hsz).mono ?_
        rintro e1 w1 ⟨rfl, d1, hrot, hk⟩
        have HP := Lib.hid (HF.out d1 hrot)
        have HZ := Lib.hid (hrot.size.trans HN.out)
        have HK1 := Lib.hid hk
        clear hrot hk HK HC q1 q2 HF
        rename Hid (SW e32 w0 blk off d1 w1) => HK
        by_cases h2 : a < i ∧ i < mid
        · have q3 : (a : Int) < (i : Int) := by omega
          have q4 : (i : Int) < (mid : Int) := by omega
          have HC := Lib.hid h2
          clear h2
          go_wp2_with fail
          refine (HIH.out a i mid d1 _ (by omega) HZ.out HK.out HC.out.1 HC.out.2 (by omega) HP.out.1 HP.out.2.1).mono ?_
          rintro e2 w2 ⟨rfl, d2, hmg, hk⟩
          have HP3 := Lib.hid (HP.out.2.2 d2 hmg)
          have HZ2 := Lib.hid (hmg.1.size.trans HZ.out)
          have HK2 := Lib.hid hk
          clear hmg hk HP HK HZ HC q3 q4
          rename Hid (d2.size = N) => HZ
          rename Hid (SW e32 w0 blk off d2 w2) => HK
          by_cases h3 : mid < e ∧ e < b
          · have q5 : (mid : Int) < (e : Int) := by omega
            have q6 : (e : Int) < (b : Int) := by omega
            have HC := Lib.hid h3
            clear h3
            go_wp2_with fail
            all_goals
              refine (HIH.out mid e b d2 _ (by omega) HZ.out HK.out HC.out.1 HC.out.2 hb HP3.out.1 HP3.out.2.1).mono ?_
              rintro e3 w3 ⟨rfl, d3, hmg, hk⟩
              have HEND := Lib.hid (HP3.out.2.2 d3 hmg)
              have HK3 := Lib.hid hk
              clear hmg hk
              go_wp2_with fail
              go_end0
              exact ⟨rfl, d3, HEND.out, HK3.out⟩
          · have HEND := Lib.hid (HP3.out.2.2 d2 (mg_none HP3.out.1 HP3.out.2.1 (by omega)))
            have hq : ¬ ((mid : Int) < (e : Int)) ∨ ((mid : Int) < (e : Int)) ∧ ¬ ((e : Int) < (b : Int)) := by omega
            clear h3
            rcases hq with q5 | ⟨q5, q6⟩
            · go_wp2_with fail
              all_goals go_end0
              all_goals exact ⟨rfl, d2, HEND.out, HK.out⟩
            · go_wp2_with fail
              all_goals go_end0
              all_goals exact ⟨rfl, d2, HEND.out, HK.out⟩
        · have HP3 := Lib.hid (HP.out.2.2 d1 (mg_none HP.out.1 HP.out.2.1 (by omega)))
          have hq : ¬ ((a : Int) < (i : Int)) ∨ ((a : Int) < (i : Int)) ∧ ¬ ((i : Int) < (mid : Int)) := by omega
          clear h2 HP
          rcases hq with q3 | ⟨q3, q4⟩
          · skip
            by_cases h3 : mid < e ∧ e < b
            · have q5 : (mid : Int) < (e : Int) := by omega
              have q6 : (e : Int) < (b : Int) := by omega
              have HC := Lib.hid h3
              clear h3
              go_wp2_with fail
              all_goals
                refine (HIH.out mid e b d1 _ (by omega) HZ.out HK.out HC.out.1 HC.out.2 hb HP3.out.1 HP3.out.2.1).mono ?_
                rintro e3 w3 ⟨rfl, d3, hmg, hk⟩
                have HEND := Lib.hid (HP3.out.2.2 d3 hmg)
                have HK3 := Lib.hid hk
                clear hmg hk
                go_wp2_with fail
                go_end0
                exact ⟨rfl, d3, HEND.out, HK3.out⟩
            · have HEND := Lib.hid (HP3.out.2.2 d1 (mg_none HP3.out.1 HP3.out.2.1 (by omega)))
              have hq : ¬ ((mid : Int) < (e : Int)) ∨ ((mid : Int) < (e : Int)) ∧ ¬ ((e : Int) < (b : Int)) := by omega
              clear h3
              rcases hq with q5 | ⟨q5, q6⟩
              · go_wp2_with fail
                all_goals go_end0
                all_goals exact ⟨rfl, d1, HEND.out, HK.out⟩
              · go_wp2_with fail
                all_goals go_end0
                all_goals exact ⟨rfl, d1, HEND.out, HK.out⟩
          · skip
            by_cases h3 : mid < e ∧ e < b
            · have q5 : (mid : Int) < (e : Int) := by omega
              have q6 : (e : Int) < (b : Int) := by omega
              have HC := Lib.hid h3
              clear h3
              go_wp2_with fail
              all_goals
                refine (HIH.out mid e b d1 _ (by omega) HZ.out HK.out HC.out.1 HC.out.2 hb HP3.out.1 HP3.out.2.1).mono ?_
                rintro e3 w3 ⟨rfl, d3, hmg, hk⟩
                have HEND := Lib.hid (HP3.out.2.2 d3 hmg)
                have HK3 := Lib.hid hk
                clear hmg hk
                go_wp2_with fail
                go_end0
                exact ⟨rfl, d3, HEND.out, HK3.out⟩
            · have HEND := Lib.hid (HP3.out.2.2 d1 (mg_none HP3.out.1 HP3.out.2.1 (by omega)))
              have hq : ¬ ((mid : Int) < (e : Int)) ∨ ((mid : Int) < (e : Int)) ∧ ¬ ((e : Int) < (b : Int)) := by omega
              clear h3
              rcases hq with q5 | ⟨q5, q6⟩
              · go_wp2_with fail
                all_goals go_end0
                all_goals exact ⟨rfl, d1, HEND.out, HK.out⟩
              · go_wp2_with fail
                all_goals go_end0
                all_goals exact ⟨rfl, d1, HEND.out, HK.out⟩
      · have HP := Lib.hid (HF.out d (by
          by_cases h : i < m
          · obtain rfl : e = m := by omega
            exact Rot.refl_right _ _ _
          · obtain rfl : i = m := by omega
            exact Rot.refl_left _ _ _ hie))
        have HZ := Lib.hid HN.out
        have hq : ¬ ((i : Int) < (m : Int)) ∨ ((i : Int) < (m : Int)) ∧ ¬ ((m : Int) < (e : Int)) := by omega
        clear h1 HF
        rcases hq with q1 | ⟨q1, q2⟩
        · skip
          by_cases h2 : a < i ∧ i < mid
          · have q3 : (a : Int) < (i : Int) := by omega
            have q4 : (i : Int) < (mid : Int) := by omega
            have HC := Lib.hid h2
            clear h2
            go_wp2_with fail
            refine (HIH.out a i mid d _ (by omega) HZ.out HK.out HC.out.1 HC.out.2 (by omega) HP.out.1 HP.out.2.1).mono ?_
            rintro e2 w2 ⟨rfl, d2, hmg, hk⟩
            have HP3 := Lib.hid (HP.out.2.2 d2 hmg)
            have HZ2 := Lib.hid (hmg.1.size.trans HZ.out)
            have HK2 := Lib.hid hk
            clear hmg hk HP HK HZ HC q3 q4
            rename Hid (d2.size = N) => HZ
            rename Hid (SW e32 w0 blk off d2 w2) => HK
            by_cases h3 : mid < e ∧ e < b
            · have q5 : (mid : Int) < (e : Int) := by omega
              have q6 : (e : Int) < (b : Int) := by omega
              have HC := Lib.hid h3
              clear h3
              go_wp2_with fail
              all_goals
                refine (HIH.out mid e b d2 _ (by omega) HZ.out HK.out HC.out.1 HC.out.2 hb HP3.out.1 HP3.out.2.1).mono ?_
                rintro e3 w3 ⟨rfl, d3, hmg, hk⟩
                have HEND := Lib.hid (HP3.out.2.2 d3 hmg)
                have HK3 := Lib.hid hk
                clear hmg hk
                go_wp2_with fail
                go_end0
                exact ⟨rfl, d3, HEND.out, HK3.out⟩
            · have HEND := Lib.hid (HP3.out.2.2 d2 (mg_none HP3.out.1 HP3.out.2.1 (by omega)))
              have hq : ¬ ((mid : Int) < (e : Int)) ∨ ((mid : Int) < (e : Int)) ∧ ¬ ((e : Int) < (b : Int)) := by omega
              clear h3
              rcases hq with q5 | ⟨q5, q6⟩
              · go_wp2_with fail
                all_goals go_end0
                all_goals exact ⟨rfl, d2, HEND.out, HK.out⟩
              · go_wp2_with fail
                all_goals go_end0
                all_goals exact ⟨rfl, d2, HEND.out, HK.out⟩
          · have HP3 := Lib.hid (HP.out.2.2 d (mg_none HP.out.1 HP.out.2.1 (by omega)))
            have hq : ¬ ((a : Int) < (i : Int)) ∨ ((a : Int) < (i : Int)) ∧ ¬ ((i : Int) < (mid : Int)) := by omega
            clear h2 HP
            rcases hq with q3 | ⟨q3, q4⟩
            · skip
              by_cases h3 : mid < e ∧ e < b
              · have q5 : (mid : Int) < (e : Int) := by omega
                have q6 : (e : Int) < (b : Int) := by omega
                have HC := Lib.hid h3
                clear h3
                go_wp2_with fail
                all_goals
                  refine (HIH.out mid e b d _ (by omega) HZ.out HK.out HC.out.1 HC.out.2 hb HP3.out.1 HP3.out.2.1).mono ?_
                  rintro e3 w3 ⟨rfl, d3, hmg, hk⟩
                  have HEND := Lib.hid (HP3.out.2.2 d3 hmg)
                  have HK3 := Lib.hid hk
                  clear hmg hk
                  go_wp2_with fail
                  go_end0
                  exact ⟨rfl, d3, HEND.out, HK3.out⟩
              · have HEND := Lib.hid (HP3.out.2.2 d (mg_none HP3.out.1 HP3.out.2.1 (by omega)))
                have hq : ¬ ((mid : Int) < (e : Int)) ∨ ((mid : Int) < (e : Int)) ∧ ¬ ((e : Int) < (b : Int)) := by omega
                clear h3
                rcases hq with q5 | ⟨q5, q6⟩
                · go_wp2_with fail
                  all_goals go_end0
                  all_goals exact ⟨rfl, d, HEND.out, HK.out⟩
                · go_wp2_with fail
                  all_goals go_end0
                  all_goals exact ⟨rfl, d, HEND.out, HK.out⟩
            · skip
              by_cases h3 : mid < e ∧ e < b
              · have q5 : (mid : Int) < (e : Int) := by omega
                have q6 : (e : Int) < (b : Int) := by omega
                have HC := Lib.hid h3
                clear h3
                go_wp2_with fail
                all_goals
                  refine (HIH.out mid e b d _ (by omega) HZ.out HK.out HC.out.1 HC.out.2 hb HP3.out.1 HP3.out.2.1).mono ?_
                  rintro e3 w3 ⟨rfl, d3, hmg, hk⟩
                  have HEND := Lib.hid (HP3.out.2.2 d3 hmg)
                  have HK3 := Lib.hid hk
                  clear hmg hk
                  go_wp2_with fail
                  go_end0
                  exact ⟨rfl, d3, HEND.out, HK3.out⟩
              · have HEND := Lib.hid (HP3.out.2.2 d (mg_none HP3.out.1 HP3.out.2.1 (by omega)))
                have hq : ¬ ((mid : Int) < (e : Int)) ∨ ((mid : Int) < (e : Int)) ∧ ¬ ((e : Int) < (b : Int)) := by omega
                clear h3
                rcases hq with q5 | ⟨q5, q6⟩
                · go_wp2_with fail
                  all_goals go_end0
                  all_goals exact ⟨rfl, d, HEND.out, HK.out⟩
                · go_wp2_with fail
                  all_goals go_end0
                  all_goals exact ⟨rfl, d, HEND.out, HK.out⟩
        · skip
          by_cases h2 : a < i ∧ i < mid
          · have q3 : (a : Int) < (i : Int) := by omega
            have q4 : (i : Int) < (mid : Int) := by omega
            have HC := Lib.hid h2
            clear h2
            go_wp2_with fail
            refine (HIH.out a i mid d _ (by omega) HZ.out HK.out HC.out.1 HC.out.2 (by omega) HP.out.1 HP.out.2.1).mono ?_
            rintro e2 w2 ⟨rfl, d2, hmg, hk⟩
            have HP3 := Lib.hid (HP.out.2.2 d2 hmg)
            have HZ2 := Lib.hid (hmg.1.size.trans HZ.out)
            have HK2 := Lib.hid hk
            clear hmg hk HP HK HZ HC q3 q4
            rename Hid (d2.size = N) => HZ
            rename Hid (SW e32 w0 blk off d2 w2) => HK
            by_cases h3 : mid < e ∧ e < b
            · have q5 : (mid : Int) < (e : Int) := by omega
              have q6 : (e : Int) < (b : Int) := by omega
              have HC := Lib.hid h3
              clear h3
              go_wp2_with fail
              all_goals
                refine (HIH.out mid e b d2 _ (by omega) HZ.out HK.out HC.out.1 HC.out.2 hb HP3.out.1 HP3.out.2.1).mono ?_
                rintro e3 w3 ⟨rfl, d3, hmg, hk⟩
                have HEND := Lib.hid (HP3.out.2.2 d3 hmg)
                have HK3 := Lib.hid hk
                clear hmg hk
                go_wp2_with fail
                go_end0
                exact ⟨rfl, d3, HEND.out, HK3.out⟩
            · have HEND := Lib.hid (HP3.out.2.2 d2 (mg_none HP3.out.1 HP3.out.2.1 (by omega)))
              have hq : ¬ ((mid : Int) < (e : Int)) ∨ ((mid : Int) < (e : Int)) ∧ ¬ ((e : Int) < (b : Int)) := by omega
              clear h3
              rcases hq with q5 | ⟨q5, q6⟩
              · go_wp2_with fail
                all_goals go_end0
                all_goals exact ⟨rfl, d2, HEND.out, HK.out⟩
              · go_wp2_with fail
                all_goals go_end0
                all_goals exact ⟨rfl, d2, HEND.out, HK.out⟩
          · have HP3 := Lib.hid (HP.out.2.2 d (mg_none HP.out.1 HP.out.2.1 (by omega)))
            have hq : ¬ ((a : Int) < (i : Int)) ∨ ((a : Int) < (i : Int)) ∧ ¬ ((i : Int) < (mid : Int)) := by omega
            clear h2 HP
            rcases hq with q3 | ⟨q3, q4⟩
            · skip
              by_cases h3 : mid < e ∧ e < b
              · have q5 : (mid : Int) < (e : Int) := by omega
                have q6 : (e : Int) < (b : Int) := by omega
                have HC := Lib.hid h3
                clear h3
                go_wp2_with fail
                all_goals
                  refine (HIH.out mid e b d _ (by omega) HZ.out HK.out HC.out.1 HC.out.2 hb HP3.out.1 HP3.out.2.1).mono ?_
                  rintro e3 w3 ⟨rfl, d3, hmg, hk⟩
                  have HEND := Lib.hid (HP3.out.2.2 d3 hmg)
                  have HK3 := Lib.hid hk
                  clear hmg hk
                  go_wp2_with fail
                  go_end0
                  exact ⟨rfl, d3, HEND.out, HK3.out⟩
              · have HEND := Lib.hid (HP3.out.2.2 d (mg_none HP3.out.1 HP3.out.2.1 (by omega)))
                have hq : ¬ ((mid : Int) < (e : Int)) ∨ ((mid : Int) < (e : Int)) ∧ ¬ ((e : Int) < (b : Int)) := by omega
                clear h3
                rcases hq with q5 | ⟨q5, q6⟩
                · go_wp2_with fail
                  all_goals go_end0
                  all_goals exact ⟨rfl, d, HEND.out, HK.out⟩
                · go_wp2_with fail
                  all_goals go_end0
                  all_goals exact ⟨rfl, d, HEND.out, HK.out⟩
            · skip
              by_cases h3 : mid < e ∧ e < b
              · have q5 : (mid : Int) < (e : Int) := by omega
                have q6 : (e : Int) < (b : Int) := by omega
                have HC := Lib.hid h3
                clear h3
                go_wp2_with fail
                all_goals
                  refine (HIH.out mid e b d _ (by omega) HZ.out HK.out HC.out.1 HC.out.2 hb HP3.out.1 HP3.out.2.1).mono ?_
                  rintro e3 w3 ⟨rfl, d3, hmg, hk⟩
                  have HEND := Lib.hid (HP3.out.2.2 d3 hmg)
                  have HK3 := Lib.hid hk
                  clear hmg hk
                  go_wp2_with fail
                  go_end0
                  exact ⟨rfl, d3, HEND.out, HK3.out⟩
              · have HEND := Lib.hid (HP3.out.2.2 d (mg_none HP3.out.1 HP3.out.2.1 (by omega)))
                have hq : ¬ ((mid : Int) < (e : Int)) ∨ ((mid : Int) < (e : Int)) ∧ ¬ ((e : Int) < (b : Int)) := by omega
                clear h3
                rcases hq with q5 | ⟨q5, q6⟩
                · go_wp2_with fail
                  all_goals go_end0
                  all_goals exact ⟨rfl, d, HEND.out, HK.out⟩
                · go_wp2_with fail
                  all_goals go_end0
                  all_goals exact ⟨rfl, d, HEND.out, HK.out⟩

set_option maxHeartbeats 16000000 in
set_option maxRecDepth 100000 in
theorem sym_behind (key : Int → Int) (cf : Int → Int → Int) (g blk off cap a m b N sz mid : Nat) (d0 d : Array Int) (w0 w : World) (T : Told key cf g blk off N d0 w0) (IH : SymAll key g blk off cap N w0 sz) (hb1 : b - a ≤ sz + 1) (hN : d.size = N) (S : SW e32 w0 blk off d w)
    (ham1 : a + 1 < m) (hmb1 : m + 1 < b) (hb : b ≤ N) (hA : Srt key a m d) (hB : Srt key m b d) (hmid : mid = (a + b) / 2) (hmm : m ≤ mid) :
    Calls Tryd.prog 48 #[.slice (some ⟨blk, off, none⟩) N cap, .int .i64 a, .int .i64 m, .int .i64 b, .func (.func g) #[] #[]] w (MgEnd key blk off a b d w0) := by
  have mixed : Tryd.prog.follows .mixedOrders = true := by kernel_rfl
  have hsz := T.small
  have eg := T.enters
  have HT := Lib.hid T
  have HS := Lib.hid S
  have HN := Lib.hid hN
  have HA := Lib.hid hA
  have HB := Lib.hid hB
  have HIH := Lib.hid IH
  have HMID := Lib.hid hmid
  have hma : ((m : Int) - (a : Int) == 1) = false := by simp; omega
  have hmb : ((b : Int) - (m : Int) == 1) = false := by simp; omega
  have ham : a < m := by omega
  have hmbl : m < b := by omega
  have hz : ((a : Int) + (b : Int)) / 2 = (mid : Int) := by omega
  have hmid1 : a < mid := by omega
  have hmid2 : mid < b := by omega
  have hgt : ¬ (mid : Int) < (m : Int) := by omega
  obtain ⟨n, hn⟩ : ∃ n, n = mid + m := ⟨_, rfl⟩
  have hnz : (mid : Int) + (m : Int) = (n : Int) := by omega
  have hn1 : 1 ≤ n := by omega
  have hn2 : n ≤ 2 * N := by omega
  obtain ⟨p, hp⟩ : ∃ p, p = n - 1 := ⟨_, rfl⟩
  have hpz : (n : Int) - 1 = (p : Int) := by omega
  skip
  have HL := Lib.hid (show a ≤ a ∧ a ≤ m ∧ m ≤ m ∧ m ≤ mid ∧ n ≤ b + a ∧ (a = a ∨ n = b + a) ∧ (m = m ∨ n = m + m) ∧ n = mid + m ∧ p + 1 = n by omega)
  skip
  have hle := HL.out.2.1
  have hpN : p ≤ 2 * N := by omega
  clear T S hN hA hB IH hmid hmm hn hp 
  go_enter Tryd.func48, Tryd.ntmps48
  go_wp2_with fail
  go_loopg [20, 21, 23] (m - a) (fun g1 vi vj vc wr => ∃ (i j : Nat), vi = .int .i64 i ∧ vj = .int .i64 j ∧ a ≤ i ∧ i ≤ j ∧ j ≤ m ∧ j - i ≤ g1 ∧ Hid (i = a ∨ key d[i - 1]! ≤ key d[n - i]!) ∧ Hid (j = m ∨ key d[p - j]! < key d[j]!) ∧ Hid (SW e32 w0 blk off d wr))
  case atStart => exact ⟨a, m, rfl, rfl, Nat.le_refl _, by omega, Nat.le_refl _, Nat.le_refl _, Lib.hid (.inl rfl), Lib.hid (.inl rfl), HS⟩
  case round =>
    clear HS
    obtain ⟨i, j, rfl, rfl, h1, h2, h3, hg, HI, HJ, HK⟩ := hrel
    by_cases hlt : i < j
    · have hltz : (i : Int) < (j : Int) := by omega
      obtain ⟨c, hc0⟩ : ∃ c : Nat, c = (i + j) / 2 := ⟨_, rfl⟩
      have hcz : ((i : Int) + (j : Int)) / 2 = (c : Int) := by omega
      have h4 : i ≤ c := by omega
      have h5 : c < j := by omega
      obtain ⟨q, hq⟩ : ∃ q, q = p - c := ⟨_, rfl⟩
      have HQ := Lib.hid (show q = n - (c + 1) ∧ q = p - c by have := HL.out; omega)
      have hqz : (p : Int) - (c : Int) = (q : Int) := by have := HL.out; omega
      have hq2 : (q : Int) < (N : Int) := by have := HL.out; omega
      have hc2 : (c : Int) < (N : Int) := by have := HL.out; omega
      have hqw : IntKind.i64.wrap (q : Int) = (q : Int) := by rw [IntKind.wrap_i64]; omega
      clear hc0 hq
      obtain ⟨x, hx⟩ : ∃ x, x = d[q]! := ⟨_, rfl⟩
      obtain ⟨y, hy⟩ : ∃ y, y = d[c]! := ⟨_, rfl⟩
      have l1 := HK.out.cl HT.out.row (by rw [HN.out, HT.out.size]) q (by rw [HN.out]; omega)
      have l2 := HK.out.cl HT.out.row (by rw [HN.out, HT.out.size]) c (by rw [HN.out]; omega)
      have hc := HK.out.cmp HT.out.cmp HN.out x y
      have HV := Lib.hid (HT.out.lt x y)
      rw [← hx] at l1
      rw [← hy] at l2
      have HX := Lib.hid hx
      have HY := Lib.hid hy
      clear hx hy
      by_cases hv : cf x y < 0
      · have hd : decide (cf x y < 0) = true := decide_eq_true hv
        have HJ2 := Lib.hid (show c = m ∨ key d[p - c]! < key d[c]! from .inr (by rw [← HQ.out.2, ← HX.out, ← HY.out]; exact HV.out.1 hv))
        go_wp2_with fail
        go_quiet_grown (first | (go_at_fn g; refine Calls.grown_of (hc _ _)))
        have HK2 := Lib.hid (HK.out.grown nq osq)
        clear l1 l2 hc HK
        generalize grow (wr.drewN nq) osq = w2 at HK2 ⊢
        clear nq osq
        go_wp2_with fail
        go_roundg (c - i)
        case measure => omega
        case rel => exact ⟨i, c, rfl, rfl, by omega, by omega, by omega, Nat.le_refl _, HI, HJ2, HK2⟩
      · have hd : decide (cf x y < 0) = false := decide_eq_false hv
        have HI2 := Lib.hid (show c + 1 = a ∨ key d[c + 1 - 1]! ≤ key d[n - (c + 1)]! from .inr (by rw [Nat.add_sub_cancel, ← HQ.out.1, ← HX.out, ← HY.out]; exact Int.not_lt.1 fun h => hv (HV.out.2 h)))
        go_wp2_with fail
        go_quiet_grown (first | (go_at_fn g; refine Calls.grown_of (hc _ _)))
        have HK2 := Lib.hid (HK.out.grown nq osq)
        clear l1 l2 hc HK
        generalize grow (wr.drewN nq) osq = w2 at HK2 ⊢
        clear nq osq
        go_wp2_with fail
        go_roundg (j - (c + 1))
        case measure => omega
        case rel => exact ⟨c + 1, j, by go_num, rfl, by omega, by omega, by omega, Nat.le_refl _, HI2, HJ, HK2⟩
    · have hltz : ¬ (i : Int) < (j : Int) := by omega
      obtain rfl : i = j := by omega
      obtain ⟨e, he⟩ : ∃ e, e = n - i := ⟨_, rfl⟩
      have hez : (n : Int) - (i : Int) = (e : Int) := by have := HL.out; omega
      have HE := Lib.hid (show e + i = mid + m ∧ a ≤ i ∧ i ≤ m ∧ i ≤ mid ∧ e ≤ b ∧ m ≤ e by have := HL.out; omega)
      have HLL := Lib.hid (show i = a ∨ e = b ∨ key d[i - 1]! ≤ key d[e]! by
        have := HL.out
        rcases HI.out with h | h
        · omega
        · rw [he]; exact .inr (.inr h))
      have HRR := Lib.hid (show i = m ∨ e = m ∨ key d[e - 1]! < key d[i]! by
        have := HL.out
        rcases HJ.out with h | h
        · omega
        · rw [show e - 1 = p - i from by omega]; exact .inr (.inr h))
      have HF := Lib.hid (fun d1 (r : Rot i m e d d1) => mg_parts HA.out HB.out ham hmbl HMID.out HE.out.1 HE.out.2.1 HE.out.2.2.1 HE.out.2.2.2.1 HE.out.2.2.2.2.1 HE.out.2.2.2.2.2 HLL.out HRR.out r)
      have heN : e ≤ N := by have := HE.out; omega
      have hie : m ≤ e := HE.out.2.2.2.2.2
      have him : i ≤ m := HE.out.2.2.1
      have himid : i ≤ mid := HE.out.2.2.2.1
      have hai : a ≤ i := HE.out.2.1
      clear HI HJ hlt HLL HRR hltz he hg h1 h2 h3
      have hem : e + i = mid + m := HE.out.1
      have heb : e ≤ b := HE.out.2.2.2.2.1
      clear HE HL HA HB HMID
      by_cases h1 : i < m ∧ m < e
      · have q1 : (i : Int) < (m : Int) := by omega
        have q2 : (m : Int) < (e : Int) := by omega
        have HC := Lib.hid h1
        clear h1
        go_wp2_with fail
        refine (rotate_any blk off cap i m e N d0 d w0 _ (.func (.func g) #[] #[]) HT.out.row HT.out.size HN.out HK.out HC.out.1 HC.out.2 heN hsz).mono ?_
        rintro e1 w1 ⟨rfl, d1, hrot, hk⟩
        have HP := Lib.hid (HF.out d1 hrot)
        have HZ := Lib.hid (hrot.size.trans HN.out)
        have HK1 := Lib.hid hk
        clear hrot hk HK HC q1 q2 HF
        rename Hid (SW e32 w0 blk off d1 w1) => HK
        by_cases h2 : a < i ∧ i < mid
        · have q3 : (a : Int) < (i : Int) := by omega
          have q4 : (i : Int) < (mid : Int) := by omega
          have HC := Lib.hid h2
          clear h2
          go_wp2_with fail
          refine (HIH.out a i mid d1 _ (by omega) HZ.out HK.out HC.out.1 HC.out.2 (by omega) HP.out.1 HP.out.2.1).mono ?_
          rintro e2 w2 ⟨rfl, d2, hmg, hk⟩
          have HP3 := Lib.hid (HP.out.2.2 d2 hmg)
          have HZ2 := Lib.hid (hmg.1.size.trans HZ.out)
          have HK2 := Lib.hid hk
          clear hmg hk HP HK HZ HC q3 q4
          rename Hid (d2.size = N) => HZ
          rename Hid (SW e32 w0 blk off d2 w2) => HK
          by_cases h3 : mid < e ∧ e < b
          · have q5 : (mid : Int) < (e : Int) := by omega
            have q6 : (e : Int) < (b : Int) := by omega
            have HC := Lib.hid h3
            clear h3
            go_wp2_with fail
            all_goals
              refine (HIH.out mid e b d2 _ (by omega) HZ.out HK.out HC.out.1 HC.out.2 hb HP3.out.1 HP3.out.2.1).mono ?_
              rintro e3 w3 ⟨rfl, d3, hmg, hk⟩
              have HEND := Lib.hid (HP3.out.2.2 d3 hmg)
              have HK3 := Lib.hid hk
              clear hmg hk
              go_wp2_with fail
              go_end0
              exact ⟨rfl, d3, HEND.out, HK3.out⟩
          · have HEND := Lib.hid (HP3.out.2.2 d2 (mg_none HP3.out.1 HP3.out.2.1 (by omega)))
            have hq : ¬ ((mid : Int) < (e : Int)) ∨ ((mid : Int) < (e : Int)) ∧ ¬ ((e : Int) < (b : Int)) := by omega
            clear h3
            rcases hq with q5 | ⟨q5, q6⟩
            · go_wp2_with fail
              all_goals go_end0
              all_goals exact ⟨rfl, d2, HEND.out, HK.out⟩
            · go_wp2_with fail
              all_goals go_end0
              all_goals exact ⟨rfl, d2, HEND.out, HK.out⟩
        · have HP3 := Lib.hid (HP.out.2.2 d1 (mg_none HP.out.1 HP.out.2.1 (by omega)))
          have hq : ¬ ((a : Int) < (i : Int)) ∨ ((a : Int) < (i : Int)) ∧ ¬ ((i : Int) < (mid : Int)) := by omega
          clear h2 HP
          rcases hq with q3 | ⟨q3, q4⟩
          · skip
            by_cases h3 : mid < e ∧ e < b
            · have q5 : (mid : Int) < (e : Int) := by omega
              have q6 : (e : Int) < (b : Int) := by omega
              have HC := Lib.hid h3
              clear h3
              go_wp2_with fail
              all_goals
                refine (HIH.out mid e b d1 _ (by omega) HZ.out HK.out HC.out.1 HC.out.2 hb HP3.out.1 HP3.out.2.1).mono ?_
                rintro e3 w3 ⟨rfl, d3, hmg, hk⟩
                have HEND := Lib.hid (HP3.out.2.2 d3 hmg)
                have HK3 := Lib.hid hk
                clear hmg hk
                go_wp2_with fail
                go_end0
                exact ⟨rfl, d3, HEND.out, HK3.out⟩
            · have HEND := Lib.hid (HP3.out.2.2 d1 (mg_none HP3.out.1 HP3.out.2.1 (by omega)))
              have hq : ¬ ((mid : Int) < (e : Int)) ∨ ((mid : Int) < (e : Int)) ∧ ¬ ((e : Int) < (b : Int)) := by omega
              clear h3
              rcases hq with q5 | ⟨q5, q6⟩
              · go_wp2_with fail
                all_goals go_end0
                all_goals exact ⟨rfl, d1, HEND.out, HK.out⟩
              · go_wp2_with fail
                all_goals go_end0
                all_goals exact ⟨rfl, d1, HEND.out, HK.out⟩
          · skip
            by_cases h3 : mid < e ∧ e < b
            · have q5 : (mid : Int) < (e : Int) := by omega
              have q6 : (e : Int) < (b : Int) := by omega
              have HC := Lib.hid h3
              clear h3
              go_wp2_with fail
              all_goals
                refine (HIH.out mid e b d1 _ (by omega) HZ.out HK.out HC.out.1 HC.out.2 hb HP3.out.1 HP3.out.2.1).mono ?_
                rintro e3 w3 ⟨rfl, d3, hmg, hk⟩
                have HEND := Lib.hid (HP3.out.2.2 d3 hmg)
                have HK3 := Lib.hid hk
                clear hmg hk
                go_wp2_with fail
                go_end0
                exact ⟨rfl, d3, HEND.out, HK3.out⟩
            · have HEND := Lib.hid (HP3.out.2.2 d1 (mg_none HP3.out.1 HP3.out.2.1 (by omega)))
              have hq : ¬ ((mid : Int) < (e : Int)) ∨ ((mid : Int) < (e : Int)) ∧ ¬ ((e : Int) < (b : Int)) := by omega
              clear h3
              rcases hq with q5 | ⟨q5, q6⟩
              · go_wp2_with fail
                all_goals go_end0
                all_goals exact ⟨rfl, d1, HEND.out, HK.out⟩
              · go_wp2_with fail
                all_goals go_end0
                all_goals exact ⟨rfl, d1, HEND.out, HK.out⟩
      · have HP := Lib.hid (HF.out d (by
          by_cases h : i < m
          · obtain rfl : e = m := by omega
            exact Rot.refl_right _ _ _
          · obtain rfl : i = m := by omega
            exact Rot.refl_left _ _ _ hie))
        have HZ := Lib.hid HN.out
        have hq : ¬ ((i : Int) < (m : Int)) ∨ ((i : Int) < (m : Int)) ∧ ¬ ((m : Int) < (e : Int)) := by omega
        clear h1 HF
        rcases hq with q1 | ⟨q1, q2⟩
        · skip
          by_cases h2 : a < i ∧ i < mid
          · have q3 : (a : Int) < (i : Int) := by omega
            have q4 : (i : Int) < (mid : Int) := by omega
            have HC := Lib.hid h2
            clear h2
            go_wp2_with fail
            refine (HIH.out a i mid d _ (by omega) HZ.out HK.out HC.out.1 HC.out.2 (by omega) HP.out.1 HP.out.2.1).mono ?_
            rintro e2 w2 ⟨rfl, d2, hmg, hk⟩
            have HP3 := Lib.hid (HP.out.2.2 d2 hmg)
            have HZ2 := Lib.hid (hmg.1.size.trans HZ.out)
            have HK2 := Lib.hid hk
            clear hmg hk HP HK HZ HC q3 q4
            rename Hid (d2.size = N) => HZ
            rename Hid (SW e32 w0 blk off d2 w2) => HK
            by_cases h3 : mid < e ∧ e < b
            · have q5 : (mid : Int) < (e : Int) := by omega
              have q6 : (e : Int) < (b : Int) := by omega
              have HC := Lib.hid h3
              clear h3
              go_wp2_with fail
              all_goals
                refine (HIH.out mid e b d2 _ (by omega) HZ.out HK.out HC.out.1 HC.out.2 hb HP3.out.1 HP3.out.2.1).mono ?_
                rintro e3 w3 ⟨rfl, d3, hmg, hk⟩
                have HEND := Lib.hid (HP3.out.2.2 d3 hmg)
                have HK3 := Lib.hid hk
                clear hmg hk
                go_wp2_with fail
                go_end0
                exact ⟨rfl, d3, HEND.out, HK3.out⟩
            · have HEND := Lib.hid (HP3.out.2.2 d2 (mg_none HP3.out.1 HP3.out.2.1 (by omega)))
              have hq : ¬ ((mid : Int) < (e : Int)) ∨ ((mid : Int) < (e : Int)) ∧ ¬ ((e : Int) < (b : Int)) := by omega
              clear h3
              rcases hq with q5 | ⟨q5, q6⟩
              · go_wp2_with fail
                all_goals go_end0
                all_goals exact ⟨rfl, d2, HEND.out, HK.out⟩
              · go_wp2_with fail
                all_goals go_end0
                all_goals exact ⟨rfl, d2, HEND.out, HK.out⟩
          · have HP3 := Lib.hid (HP.out.2.2 d (mg_none HP.out.1 HP.out.2.1 (by omega)))
            have hq : ¬ ((a : Int) < (i : Int)) ∨ ((a : Int) < (i : Int)) ∧ ¬ ((i : Int) < (mid : Int)) := by omega
            clear h2 HP
            rcases hq with q3 | ⟨q3, q4⟩
            · skip
              by_cases h3 : mid < e ∧ e < b
              · have q5 : (mid : Int) < (e : Int) := by omega
                have q6 : (e : Int) < (b : Int) := by omega
                have HC := Lib.hid h3
                clear h3
                go_wp2_with fail
                all_goals
                  refine (HIH.out mid e b d _ (by omega) HZ.out HK.out HC.out.1 HC.out.2 hb HP3.out.1 HP3.out.2.1).mono ?_
                  rintro e3 w3 ⟨rfl, d3, hmg, hk⟩
                  have HEND := Lib.hid (HP3.out.2.2 d3 hmg)
                  have HK3 := Lib.hid hk
                  clear hmg hk
                  go_wp2_with fail
                  go_end0
                  exact ⟨rfl, d3, HEND.out, HK3.out⟩
              · have HEND := Lib.hid (HP3.out.2.2 d (mg_none HP3.out.1 HP3.out.2.1 (by omega)))
                have hq : ¬ ((mid : Int) < (e : Int)) ∨ ((mid : Int) < (e : Int)) ∧ ¬ ((e : Int) < (b : Int)) := by omega
                clear h3
                rcases hq with q5 | ⟨q5, q6⟩
                · go_wp2_with fail
                  all_goals go_end0
                  all_goals exact ⟨rfl, d, HEND.out, HK.out⟩
                · go_wp2_with fail
                  all_goals go_end0
                  all_goals exact ⟨rfl, d, HEND.out, HK.out⟩
            · skip
              by_cases h3 : mid < e ∧ e < b
              · have q5 : (mid : Int) < (e : Int) := by omega
                have q6 : (e : Int) < (b : Int) := by omega
                have HC := Lib.hid h3
                clear h3
                go_wp2_with fail
                all_goals
                  refine (HIH.out mid e b d _ (by omega) HZ.out HK.out HC.out.1 HC.out.2 hb HP3.out.1 HP3.out.2.1).mono ?_
                  rintro e3 w3 ⟨rfl, d3, hmg, hk⟩
                  have HEND := Lib.hid (HP3.out.2.2 d3 hmg)
                  have HK3 := Lib.hid hk
                  clear hmg hk
                  go_wp2_with fail
                  go_end0
                  exact ⟨rfl, d3, HEND.out, HK3.out⟩
              · have HEND := Lib.hid (HP3.out.2.2 d (mg_none HP3.out.1 HP3.out.2.1 (by omega)))
                have hq : ¬ ((mid : Int) < (e : Int)) ∨ ((mid : Int) < (e : Int)) ∧ ¬ ((e : Int) < (b : Int)) := by omega
                clear h3
                rcases hq with q5 | ⟨q5, q6⟩
                · go_wp2_with fail
                  all_goals go_end0
                  all_goals exact ⟨rfl, d, HEND.out, HK.out⟩
                · go_wp2_with fail
                  all_goals go_end0
                  all_goals exact ⟨rfl, d, HEND.out, HK.out⟩
        · skip
          by_cases h2 : a < i ∧ i < mid
          · have q3 : (a : Int) < (i : Int) := by omega
            have q4 : (i : Int) < (mid : Int) := by omega
            have HC := Lib.hid h2
            clear h2
            go_wp2_with fail
            refine (HIH.out a i mid d _ (by omega) HZ.out HK.out HC.out.1 HC.out.2 (by omega) HP.out.1 HP.out.2.1).mono ?_
            rintro e2 w2 ⟨rfl, d2, hmg, hk⟩
            have HP3 := Lib.hid (HP.out.2.2 d2 hmg)
            have HZ2 := Lib.hid (hmg.1.size.trans HZ.out)
            have HK2 := Lib.hid hk
            clear hmg hk HP HK HZ HC q3 q4
            rename Hid (d2.size = N) => HZ
            rename Hid (SW e32 w0 blk off d2 w2) => HK
            by_cases h3 : mid < e ∧ e < b
            · have q5 : (mid : Int) < (e : Int) := by omega
              have q6 : (e : Int) < (b : Int) := by omega
              have HC := Lib.hid h3
              clear h3
              go_wp2_with fail
              all_goals
                refine (HIH.out mid e b d2 _ (by omega) HZ.out HK.out HC.out.1 HC.out.2 hb HP3.out.1 HP3.out.2.1).mono ?_
                rintro e3 w3 ⟨rfl, d3, hmg, hk⟩
                have HEND := Lib.hid (HP3.out.2.2 d3 hmg)
                have HK3 := Lib.hid hk
                clear hmg hk
                go_wp2_with fail
                go_end0
                exact ⟨rfl, d3, HEND.out, HK3.out⟩
            · have HEND := Lib.hid (HP3.out.2.2 d2 (mg_none HP3.out.1 HP3.out.2.1 (by omega)))
              have hq : ¬ ((mid : Int) < (e : Int)) ∨ ((mid : Int) < (e : Int)) ∧ ¬ ((e : Int) < (b : Int)) := by omega
              clear h3
              rcases hq with q5 | ⟨q5, q6⟩
              · go_wp2_with fail
                all_goals go_end0
                all_goals exact ⟨rfl, d2, HEND.out, HK.out⟩
              · go_wp2_with fail
                all_goals go_end0
                all_goals exact ⟨rfl, d2, HEND.out, HK.out⟩
          · have HP3 := Lib.hid (HP.out.2.2 d (mg_none HP.out.1 HP.out.2.1 (by omega)))
            have hq : ¬ ((a : Int) < (i : Int)) ∨ ((a : Int) < (i : Int)) ∧ ¬ ((i : Int) < (mid : Int)) := by omega
            clear h2 HP
            rcases hq with q3 | ⟨q3, q4⟩
            · skip
              by_cases h3 : mid < e ∧ e < b
              · have q5 : (mid : Int) < (e : Int) := by omega
                have q6 : (e : Int) < (b : Int) := by omega
                have HC := Lib.hid h3
                clear h3
                go_wp2_with fail
                all_goals
                  refine (HIH.out mid e b d _ (by omega) HZ.out HK.out HC.out.1 HC.out.2 hb HP3.out.1 HP3.out.2.1).mono ?_
                  rintro e3 w3 ⟨rfl, d3, hmg, hk⟩
                  have HEND := Lib.hid (HP3.out.2.2 d3 hmg)
                  have HK3 := Lib.hid hk
                  clear hmg hk
                  go_wp2_with fail
                  go_end0
                  exact ⟨rfl, d3, HEND.out, HK3.out⟩
              · have HEND := Lib.hid (HP3.out.2.2 d (mg_none HP3.out.1 HP3.out.2.1 (by omega)))
                have hq : ¬ ((mid : Int) < (e : Int)) ∨ ((mid : Int) < (e : Int)) ∧ ¬ ((e : Int) < (b : Int)) := by omega
                clear h3
                rcases hq with q5 | ⟨q5, q6⟩
                · go_wp2_with fail
                  all_goals go_end0
                  all_goals exact ⟨rfl, d, HEND.out, HK.out⟩
                · go_wp2_with fail
                  all_goals go_end0
                  all_goals exact ⟨rfl, d, HEND.out, HK.out⟩
            · skip
              by_cases h3 : mid < e ∧ e < b
              · have q5 : (mid : Int) < (e : Int) := by omega
                have q6 : (e : Int) < (b : Int) := by omega
                have HC := Lib.hid h3
                clear h3
                go_wp2_with fail
                all_goals
                  refine (HIH.out mid e b d _ (by omega) HZ.out HK.out HC.out.1 HC.out.2 hb HP3.out.1 HP3.out.2.1).mono ?_
                  rintro e3 w3 ⟨rfl, d3, hmg, hk⟩
                  have HEND := Lib.hid (HP3.out.2.2 d3 hmg)
                  have HK3 := Lib.hid hk
                  clear hmg hk
                  go_wp2_with fail
                  go_end0
                  exact ⟨rfl, d3, HEND.out, HK3.out⟩
              · have HEND := Lib.hid (HP3.out.2.2 d (mg_none HP3.out.1 HP3.out.2.1 (by omega)))
                have hq : ¬ ((mid : Int) < (e : Int)) ∨ ((mid : Int) < (e : Int)) ∧ ¬ ((e : Int) < (b : Int)) := by omega
                clear h3
                rcases hq with q5 | ⟨q5, q6⟩
                · go_wp2_with fail
                  all_goals go_end0
                  all_goals exact ⟨rfl, d, HEND.out, HK.out⟩
                · go_wp2_with fail
                  all_goals go_end0
                  all_goals exact ⟨rfl, d, HEND.out, HK.out⟩

theorem sym_any (key : Int → Int) (cf : Int → Int → Int) (g blk off cap N : Nat) (d0 : Array Int) (w0 : World) (T : Told key cf g blk off N d0 w0) : ∀ sz, SymAll key g blk off cap N w0 sz := by
  intro sz
  induction sz with
  | zero => intro a m b d w h; omega
  | succ sz ih =>
    intro a m b d w hsz hN S ham hmb hb hA hB
    by_cases h1 : m = a + 1
    · exact sym_first key cf g blk off cap a m b N d0 d w0 w T hN S h1 hmb hb (by rw [← h1]; exact hB)
    · by_cases h2 : b = m + 1
      · exact sym_last key cf g blk off cap a m b N d0 d w0 w T hN S (by omega) h2 hb hA
      · rcases Nat.lt_or_ge ((a + b) / 2) m with h | h
        · exact sym_ahead key cf g blk off cap a m b N sz _ d0 d w0 w T ih hsz hN S (by omega) (by omega) hb hA hB rfl h
        · exact sym_behind key cf g blk off cap a m b N sz _ d0 d w0 w T ih hsz hN S (by omega) (by omega) hb hA hB rfl h
end Go.Proofs.YtochodombojamaaDoor.Norm
