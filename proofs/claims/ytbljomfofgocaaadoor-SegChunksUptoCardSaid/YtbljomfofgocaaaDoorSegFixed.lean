/-
  CONTRACT OF fixed: the chapter's examples come out true, wherever the tables are laid.
-/
import Derived.Test.YtbljomfofgocaaaDoorSegDoc
import Derived.Test.YtbljomfofgocaaaDoorNormFixed
namespace Go.Proofs.YtbljomfofgocaaaDoor.Seg
open Go.Shelf Go.RowKit Go.Sort
open Utf hiding infoI32 rd_new own_form rdec_any below_drewN new_any write_any close_any
open Ucd hiding grow same Told
open Norm hiding new_any write_any close_any pending_any pending_nil write_nil write_closed close_nil
set_option maxRecDepth 100000

theorem conv_lits (n : Nat) (w : World) (C : Array Value) : (convert 31 31 (.slice (some ⟨w.heap.size, 0, none⟩) n n)).run Tryd.prog (w.alloc (.cells C 5)) = .ok (.slice (some ⟨w.heap.size, 0, none⟩) n n) (w.alloc (.cells C 5 (C.size, C.size + 1))) := by
  have hsh : (w.alloc (.cells C 5)).shape? w.heap.size = some (5, C.size) := by
    have : (w.alloc (.cells C 5)).heap[w.heap.size]? = some (.cells C 5) := heap_alloc_new w _
    unfold World.shape?
    rw [this]
  have hfr : (w.alloc (.cells C 5)).freeze ⟨w.heap.size, C.size, none⟩ 1 = w.alloc (.cells C 5 (C.size, C.size + 1)) := by
    have hm : ∀ (a : Array Obj) (x : Obj) (f : Obj → Obj), (a.push x).modify a.size f = a.push (f x) := by
      intro a x f
      apply Array.ext
      · simp
      · intro i h1 h2
        simp only [Array.getElem_modify, Array.getElem_push]
        by_cases h : a.size = i
        · subst h
          simp
        · have hi : i < a.size := by simp at h1; omega
          simp [h, hi]
    unfold World.freeze
    rw [if_neg (by decide)]
    show ({ w.alloc (.cells C 5) with heap := (w.heap.push (.cells C 5)).modify w.heap.size _ } : World) = _
    rw [hm]
    rfl
  simp [convert, run_underlying Tryd.underlying31, run_underlying Tryd.underlying5, markStringish, hsh]
  exact hfr
/-- Split, its answer named -/
theorem split_at (lim : Int) (l : List UInt8) (S : List Sg) (E : Int) (n m : Nat) (hS : spS lim l = S) (hE : spE lim l = E) (hn : l.length = n) (hm : S.length = m) (A : Option Addr) (c : Nat) (w : World) (hL : Laid w) (hr : Rd w w.heap.size A (bys l)) (hc : n ≤ c) (hcm : c ≤ 9223372036854775807) (hsm : n ≤ 1000) :
    Calls Tryd.prog 30 #[.slice A n c, .int .i64 lim] w fun e w' => ∃ A2 c2, e = .returned (.tuple #[.slice A2 m c2, .int .i64 E]) ∧ Rd w' w'.heap.size A2 (sgs S) ∧ Below w.heap.size w w' :=
  (split_any lim l A n c w hL hr hn hc hcm (by omega)).mono fun e w' ⟨v, he, ho, hb⟩ => by
    rw [hS] at ho
    obtain ⟨A2, c2, rfl, _, _, h6⟩ := own_form ho
    exact ⟨A2, c2, by rw [he, hE, hm], h6, hb⟩
/-- a Write of a live segmenter, its answer named -/
theorem write_at (base sb db lim m c k : Nat) (vo : Value) (X l Y : List UInt8) (T T' : List (List Pt)) (hY : X ++ l = Y) (hT : (go opP flen lim [] [] (dec true 0 Y)).1 = T') (hF : (go opP flen lim [] [] (dec true 0 Y)).2.2 = false) (hk : (T'.drop T.length).length = k) (A : Option Addr) (w : World) (hL : Laid w) (h : Live w base sb db lim vo X T)
    (hr : Rd w w.heap.size A (bys l)) (hm : l.length = m) (hc : m ≤ c) (hcm : c ≤ 9223372036854775807) (hb : base ≤ w.heap.size) (hg : 2 < base) (hsm : X.length + m ≤ 1000) :
    Calls Tryd.prog 11 #[.pointer (some ⟨sb, 0, none⟩), .slice A m c] w fun e w' => ∃ A2 c2 vo', e = .returned (.tuple #[.slice A2 k c2, .int .i64 0]) ∧ Live w' base sb db lim vo' Y T' ∧ Below base w w' :=
  (live_write base sb db lim m c vo X l T A w hL h hr hm hc hcm hb hg (by omega)).mono fun e w' ⟨v, Tn, b, he, ho, hch, hf, ht⟩ => by
    have hbl := hch.below hb (fun i hi => h.hers hi)
    cases b with
    | true =>
      exfalso
      obtain ⟨_, hbad⟩ := ht rfl
      obtain ⟨T0, O0, b0, hgo⟩ : ∃ T0 O0 b0, go opP flen lim [] [] (dec true 0 Y) = (T0, O0, b0) := ⟨_, _, _, rfl⟩
      rw [hgo] at hF
      simp only at hF
      subst hF
      obtain ⟨_, _, h3⟩ := (go_all opP flen lim flen_grows hgo).1 rfl
      have h4 := (okG_all flen lim h3).2
      have h5 := (hbad []).2
      rw [List.append_nil, hY] at h5
      unfold grp at h5
      rw [h4] at h5
      cases h5
    | false =>
      obtain ⟨vo', hlv, _⟩ := hf rfl
      rw [hY] at hlv
      have hTT : T ++ Tn = T' := by
        obtain ⟨O, a, k0, k1, k2, g1, _⟩ := hlv
        rw [g1] at hT
        exact hT
      have hTn : Tn = T'.drop T.length := by rw [← hTT, List.drop_left]
      rw [hTT] at hlv
      obtain ⟨A2, c2, rfl, _⟩ := own_form ho
      exact ⟨A2, c2, vo', by rw [he, List.length_map, hTn, hk]; rfl, hlv, hbl⟩
theorem close_at (base sb db lim k : Nat) (vo : Value) (X : List UInt8) (T : List (List Pt)) (hB : badS lim X = false) (hk : (okS lim X).length = T.length + k) (w : World) (hL : Laid w) (h : Live w base sb db lim vo X T) (hb : base ≤ w.heap.size) (hg : 2 < base) (hsm : X.length ≤ 1000) :
    Calls Tryd.prog 16 #[.pointer (some ⟨sb, 0, none⟩)] w fun e w' => ∃ A2 c2, e = .returned (.tuple #[.slice A2 k c2, .int .i64 0]) ∧ Done w' sb 8 ∧ Below base w w' :=
  (live_close base sb db lim vo X T w hL h hb hg (by omega)).mono fun e w' ⟨v, Tn, he, ho, hch, hok, hd⟩ => by
    rw [hB] at he hd
    obtain ⟨A2, c2, rfl, _⟩ := own_form ho
    have hl : Tn.length = k := by have := congrArg List.length hok; rw [List.length_append, hk] at this; omega
    exact ⟨A2, c2, by rw [he, List.length_map, hl]; rfl, hd, hch.below hb (fun i hi => h.hers hi)⟩
theorem same_at (a b : List UInt8) (m n : Nat) (v : Bool) (hv : sameT a b = v) (hm : a.length = m) (hn : b.length = n) (A B : Option Addr) (c d : Nat) (w : World) (hL : Laid w) (ha : Rd w w.heap.size A (bys a)) (hb : Rd w w.heap.size B (bys b)) (hc : m ≤ c) (hcm : c ≤ 9223372036854775807) (hd : n ≤ d) (hdm : d ≤ 9223372036854775807)
    (hsm : m ≤ 1000) (hsn : n ≤ 1000) : Calls Tryd.prog 31 #[.slice A m c, .slice B n d] w (Ret w (.bool v)) := hv ▸ same_any a b A B m c n d w hL ha hb hm hc hcm hn hd hdm (by omega) (by omega)
theorem texts_at (l : List UInt8) (n k : Nat) (hk : (texts l).length = k) (hn : l.length = n) (A : Option Addr) (c : Nat) (w : World) (hL : Laid w) (hr : Rd w w.heap.size A (bys l)) (hc : n ≤ c) (hcm : c ≤ 9223372036854775807) (hsm : n ≤ 1000) :
    Calls Tryd.prog 32 #[.slice A n c] w fun e w' => ∃ A2 c2, e = .returned (.slice A2 k c2) ∧ Below w.heap.size w w' :=
  (texts_any l A n c w hL hr hn hc hcm (by omega)).mono fun e w' ⟨v, he, ho, hb⟩ => by
    obtain ⟨A2, c2, rfl, _⟩ := own_form ho
    exact ⟨A2, c2, by rw [he, hk], hb⟩
def two : List Sg := [⟨⟨#[101, 204, 129]⟩, 0, 3⟩, ⟨⟨#[120]⟩, 3, 4⟩]
theorem eql_sg (w : World) (a : ByteArray) (b c : Int) : (binOp .eql 58 (.agg #[.string a, .int .i64 b, .int .i64 c]) (.agg #[.string a, .int .i64 b, .int .i64 c])).run Tryd.prog w = .ok (.bool true) w := by
  have h := neq_sg w a a b c b c
  rw [run_neq_struct] at h
  rw [run_eql_struct]
  cases hx : (Op.equalIn 10000 58 (.agg #[.string a, .int .i64 b, .int .i64 c]) (.agg #[.string a, .int .i64 b, .int .i64 c])).run Tryd.prog w with
  | ok v w' =>
    rw [hx] at h
    simp [Result.andThen] at h ⊢
    obtain ⟨h1, h2⟩ := h
    exact ⟨h1, h2⟩
  | halt x w' => rw [hx] at h; simp [Result.andThen] at h
/-- what is kept in mind while the examples are gone through -/
structure F0 (base : Nat) (w wk : World) : Prop where
  bel : Below base w wk
  laid : Laid wk
  le : base ≤ wk.heap.size
theorem F0.next {base : Nat} {w wk wl : World} (h : F0 base w wk) (hb : Below wk.heap.size wk wl) : F0 base w wl := ⟨h.bel.trans (hb.mono h.le), h.laid.next hb, Nat.le_trans h.le hb.size⟩
theorem F0.alloc {base : Nat} {w wk : World} (h : F0 base w wk) (o : Obj) : F0 base w (wk.alloc o) := h.next ((Below.refl _ _).alloc (Nat.le_refl _) o)
structure F1 (base b1 sb db : Nat) (w wk : World) (A : Option Addr) (vo : Value) (X : List UInt8) (T : List (List Pt)) : Prop where
  f : F0 base w wk
  rd : Rd wk b1 A (sgs two)
  lv : Live wk b1 sb db 8 vo X T
  le : b1 ≤ wk.heap.size
  leb : base ≤ b1
theorem F1.next {base b1 sb db : Nat} {w wk wl : World} {A : Option Addr} {vo : Value} {X : List UInt8} {T : List (List Pt)} (h : F1 base b1 sb db w wk A vo X T) (hb : Below wk.heap.size wk wl) : F1 base b1 sb db w wl A vo X T :=
  ⟨h.f.next hb, h.rd.below (hb.mono h.le), h.lv.next hb, Nat.le_trans h.le hb.size, h.leb⟩
theorem F1.alloc {base b1 sb db : Nat} {w wk : World} {A : Option Addr} {vo : Value} {X : List UInt8} {T : List (List Pt)} (h : F1 base b1 sb db w wk A vo X T) (o : Obj) : F1 base b1 sb db w (wk.alloc o) A vo X T := h.next ((Below.refl _ _).alloc (Nat.le_refl _) o)
theorem F1.wrote {base b1 sb db : Nat} {w wk wl : World} {A : Option Addr} {vo vo' : Value} {X Y : List UInt8} {T T' : List (List Pt)} (h : F1 base b1 sb db w wk A vo X T) (hg : 2 < base) (hb : Below b1 wk wl) (hl : Live wl b1 sb db 8 vo' Y T') : F1 base b1 sb db w wl A vo' Y T' :=
  ⟨⟨h.f.bel.trans (hb.mono h.leb), h.f.laid.below (hb.mono h.leb) hg, Nat.le_trans h.f.le hb.size⟩, h.rd.below hb, hl, Nat.le_trans h.le hb.size, h.leb⟩
theorem Live.pend {w : World} {base sb db lim : Nat} {vo : Value} {X : List UInt8} {T : List (List Pt)} {n : Nat} (h : Live w base sb db lim vo X T) (hn : flen (go opP flen lim [] [] (dec true 0 X)).2.1 = n) :
    Calls Tryd.prog 14 #[.pointer (some ⟨sb, 0, none⟩)] w fun e w' => e = .returned (.int .i64 n) ∧ w = w' := by
  obtain ⟨O, a, k0, k1, k2, g1, hs, _⟩ := h
  rw [g1] at hn
  rw [← hn]
  exact pending_any _ _ _ _ _ _ _ _ _ _ hs

theorem err_done (sb : Nat) (w : World) (h : Done w sb 8) : Calls Tryd.prog 15 #[.pointer (some ⟨sb, 0, none⟩)] w fun e w' => e = .returned (.int .i64 0) ∧ w = w' := by
  obtain ⟨lim, a, e, h⟩ := h
  exact err_eight sb w (h.cell 5)
def tA : List (List Pt) := (go opP flen 8 [] [] (dec true 0 [101])).1
def tB : List (List Pt) := (go opP flen 8 [] [] (dec true 0 [101, 204])).1
def tC : List (List Pt) := (go opP flen 8 [] [] (dec true 0 [101, 204, 129, 120])).1
set_option maxHeartbeats 8000000 in
theorem fixed_any (w : World) (hL : Laid w) : Calls Tryd.prog 9 #[] w (Ret w (.bool true)) := by
  have E1 := Lib.hid (show spS 8 [101, 204, 129, 120] = two by decide +kernel)
  have E2 := Lib.hid (show spE 8 [101, 204, 129, 120] = 0 by decide +kernel)
  have E3 := Lib.hid (show (spS 2 [120, 97, 204, 129, 204, 130]).length = 1 by decide +kernel)
  have E4 := Lib.hid (show spE 2 [120, 97, 204, 129, 204, 130] = 6 by decide +kernel)
  have E5 := Lib.hid (show spS 0 [] = [] by decide +kernel)
  have E6 := Lib.hid (show spE 0 [] = 1 by decide +kernel)
  have E7 := Lib.hid (show (go opP flen 8 [] [] (dec true 0 [101])).2.2 = false by decide +kernel)
  have E8 := Lib.hid (show (go opP flen 8 [] [] (dec true 0 [101, 204])).2.2 = false by decide +kernel)
  have E9 := Lib.hid (show (go opP flen 8 [] [] (dec true 0 [101, 204, 129, 120])).2.2 = false by decide +kernel)
  have E10 := Lib.hid (show (tB.drop tA.length).length = 0 by decide +kernel)
  have E11 := Lib.hid (show (tC.drop tB.length).length = 1 by decide +kernel)
  have E12 := Lib.hid (show badS 8 [101, 204, 129, 120] = false by decide +kernel)
  have E13 := Lib.hid (show (okS 8 [101, 204, 129, 120]).length = tC.length + 1 by decide +kernel)
  have E14 := Lib.hid (show flen (go opP flen 8 [] [] (dec true 0 [101, 204])).2.1 = 1 by decide +kernel)
  have E15 := Lib.hid (show sameT [195, 169] [101, 204, 129] = true by decide +kernel)
  have E16 := Lib.hid (show (texts [97, 98]).length = 2 by decide +kernel)
  have E17 := Lib.hid (show (tA.drop ([] : List (List Pt)).length).length = 0 by decide +kernel)
  have hsz := hL.size
  have HEQ := Lib.hid (fun u : World => eql_sg u ⟨#[101, 204, 129]⟩ 0 3)
  have X0 := Lib.hid (show F0 w.heap.size w w from ⟨Below.refl _ _, hL, Nat.le_refl _⟩)
  obtain ⟨base, hbase⟩ : ∃ base, base = w.heap.size := ⟨_, rfl⟩
  have HBE := Lib.hid hbase
  rw [← hbase] at X0 hsz
  have X1 := Lib.hid (X0.out.alloc (.cells (bys [101, 204, 129, 120]).toArray 5 (4, 5)))
  have hcv : (convert 31 31 (.slice (some ⟨w.heap.size, 0, none⟩) 4 4)).run Tryd.prog (w.alloc (.cells #[.int .u8 101, .int .u8 204, .int .u8 129, .int .u8 120] 5)) = .ok (.slice (some ⟨w.heap.size, 0, none⟩) 4 4) (w.alloc (.cells (bys [101, 204, 129, 120]).toArray 5 (4, 5))) := conv_lits 4 w _
  clear hL hbase
  go_enter Tryd.func9, Tryd.ntmps9
  go_wp2_with fail
  refine (split_at 8 [101, 204, 129, 120] two 0 4 2 E1.out E2.out rfl rfl _ _ _ X1.out.laid ((rd_lit w _ (4, 5) (bys [101, 204, 129, 120])).more (by simp)) (Nat.le_refl _) (by decide) (by decide)).mono ?_
  rintro e w2 ⟨A2, c2, rfl, hr2, hb2⟩
  have X2 := Lib.hid (X1.out.next hb2)
  have HR2 := Lib.hid hr2
  clear hr2 hb2 hcv X0 X1
  have X3 := Lib.hid (X2.out.alloc (.cells (bys [120, 97, 204, 129, 204, 130]).toArray 5 (6, 7)))
  have hcv : (convert 31 31 (.slice (some ⟨w2.heap.size, 0, none⟩) 6 6)).run Tryd.prog (w2.alloc (.cells #[.int .u8 120, .int .u8 97, .int .u8 204, .int .u8 129, .int .u8 204, .int .u8 130] 5)) = .ok (.slice (some ⟨w2.heap.size, 0, none⟩) 6 6) (w2.alloc (.cells (bys [120, 97, 204, 129, 204, 130]).toArray 5 (6, 7))) := conv_lits 6 w2 _
  go_wp2_with fail
  refine (split_at 2 [120, 97, 204, 129, 204, 130] _ 6 6 1 rfl E4.out rfl E3.out _ _ _ X3.out.laid ((rd_lit w2 _ (6, 7) (bys [120, 97, 204, 129, 204, 130])).more (by simp)) (Nat.le_refl _) (by decide) (by decide)).mono ?_
  rintro e w4 ⟨A4, c4, rfl, _, hb4⟩
  have X4 := Lib.hid (X3.out.next hb4)
  have HR4 := Lib.hid ((((HR2.out.alloc (Nat.le_refl _) (.cells (bys [120, 97, 204, 129, 204, 130]).toArray 5 (6, 7))).more (B' := (w2.alloc (.cells (bys [120, 97, 204, 129, 204, 130]).toArray 5 (6, 7))).heap.size) (by simp)).below hb4).more hb4.size)
  clear hb4 hcv X2 X3 HR2
  go_wp2_with fail
  refine (split_at 0 [] [] 1 0 0 E5.out E6.out rfl rfl none 0 w4 X4.out.laid (Rd.empty _ _ _) (Nat.le_refl _) (by decide) (by decide)).mono ?_
  rintro e w5 ⟨A5, c5, rfl, _, hb5⟩
  have X5 := Lib.hid (X4.out.next hb5)
  have HR5 := Lib.hid ((HR4.out.below hb5).more hb5.size)
  clear hb5 X4 HR4
  go_wp2_with fail
  refine (new_good 8 w5 (by decide) (by decide)).mono ?_
  rintro e w6 ⟨sb, db, rfl, hS6, hb6⟩
  have X6 := Lib.hid (show F1 base w5.heap.size sb db w w6 A2 (.slice none 0 0) [] [] from ⟨X5.out.next hb6, HR5.out.below hb6, live_new hS6, hb6.size, X5.out.le⟩)
  obtain ⟨b1, hb1⟩ : ∃ b1, b1 = w5.heap.size := ⟨_, rfl⟩
  rw [← hb1] at X6
  clear hS6 hb6 X5 HR5 hb1
  -- the first Write
  have X7 := Lib.hid (X6.out.alloc (.cells (bys [101]).toArray 5 (1, 2)))
  have hcv : (convert 31 31 (.slice (some ⟨w6.heap.size, 0, none⟩) 1 1)).run Tryd.prog (w6.alloc (.cells #[.int .u8 101] 5)) = .ok (.slice (some ⟨w6.heap.size, 0, none⟩) 1 1) (w6.alloc (.cells (bys [101]).toArray 5 (1, 2))) := conv_lits 1 w6 _
  go_wp2_with fail
  refine (write_at b1 sb db 8 1 1 0 (.slice none 0 0) [] [101] [101] [] tA rfl rfl E7.out E17.out _ _ X7.out.f.laid X7.out.lv ((rd_lit w6 _ (1, 2) (bys [101])).more (by simp)) rfl (Nat.le_refl _) (by decide) X7.out.le (Nat.lt_of_lt_of_le hsz X7.out.leb) (by decide)).mono ?_
  rintro e w8 ⟨A8, c8, vo8, rfl, hl8, hb8⟩
  have X8 := Lib.hid (X7.out.wrote hsz hb8 hl8)
  clear hl8 hb8 hcv X6 X7
  go_wp2_with fail
  have X9 := Lib.hid (X8.out.alloc (.cells (bys [204]).toArray 5))
  refine (write_at b1 sb db 8 1 1 0 vo8 [101] [204] [101, 204] tA tB rfl rfl E8.out E10.out _ _ X9.out.f.laid X9.out.lv ((Utf.rd_new w8 _ (bys [204]) w8.heap.size rfl).more (by simp)) rfl (Nat.le_refl _) (by decide) X9.out.le (Nat.lt_of_lt_of_le hsz X9.out.leb) (by decide)).mono ?_
  rintro e w10 ⟨A10, c10, vo10, rfl, hl10, hb10⟩
  have X10 := Lib.hid (X9.out.wrote hsz hb10 hl10)
  clear hl10 hb10 X8 X9
  go_wp2_with fail
  refine (X10.out.lv.pend E14.out).mono ?_
  rintro e w10' ⟨rfl, rfl⟩
  go_wp2_with fail
  have X11 := Lib.hid (X10.out.alloc (.cells (bys [129, 120]).toArray 5))
  refine (write_at b1 sb db 8 2 2 1 vo10 [101, 204] [129, 120] [101, 204, 129, 120] tB tC rfl rfl E9.out E11.out _ _ X11.out.f.laid X11.out.lv ((Utf.rd_new w10 _ (bys [129, 120]) w10.heap.size rfl).more (by simp)) rfl (Nat.le_refl _) (by decide) X11.out.le (Nat.lt_of_lt_of_le hsz X11.out.leb) (by decide)).mono ?_
  rintro e w12 ⟨A12, c12, vo12, rfl, hl12, hb12⟩
  have X12 := Lib.hid (X11.out.wrote hsz hb12 hl12)
  clear hl12 hb12 X10 X11
  go_wp2_with fail
  refine (close_at b1 sb db 8 1 vo12 [101, 204, 129, 120] tC E12.out E13.out w12 X12.out.f.laid X12.out.lv X12.out.le (Nat.lt_of_lt_of_le hsz X12.out.leb) (by decide)).mono ?_
  rintro e w13 ⟨A13, c13, rfl, hd13, hb13⟩
  have X13 := Lib.hid (show F0 base w w13 from ⟨X12.out.f.bel.trans (hb13.mono X12.out.leb), X12.out.f.laid.below (hb13.mono X12.out.leb) hsz, Nat.le_trans X12.out.f.le hb13.size⟩)
  have HD13 := Lib.hid hd13
  have hrd := X12.out.rd.below hb13
  obtain ⟨bq, oq, rfl, _⟩ := hrd.form (by decide)
  obtain ⟨p1, p2, p3⟩ := Rd_sg (k := 0) hrd (by decide)
  simp only [two, Nat.zero_mul, Nat.add_zero, List.getElem_cons_zero] at p1 p2 p3
  have q2 : w13.cell? ⟨bq, oq + 1, none⟩ = some (.int .i64 0) := p2
  have q3 : w13.cell? ⟨bq, oq + 2, none⟩ = some (.int .i64 3) := p3
  have heq := HEQ.out
  clear hd13 hb13 X12 hrd p2 p3
  go_wp2_with fail
  refine (err_done sb w13 HD13.out).mono ?_
  rintro e w13' ⟨rfl, rfl⟩
  have X14 := Lib.hid (X13.out.alloc (.cells (bys [195, 169]).toArray 5 (2, 3)))
  have X15 := Lib.hid (X14.out.alloc (.cells (bys [101, 204, 129]).toArray 5 (3, 4)))
  have hcv : (convert 31 31 (.slice (some ⟨w13.heap.size, 0, none⟩) 2 2)).run Tryd.prog (w13.alloc (.cells #[.int .u8 195, .int .u8 169] 5)) = .ok (.slice (some ⟨w13.heap.size, 0, none⟩) 2 2) (w13.alloc (.cells (bys [195, 169]).toArray 5 (2, 3))) := conv_lits 2 w13 _
  have hcv2 : (convert 31 31 (.slice (some ⟨w13.heap.size + 1, 0, none⟩) 3 3)).run Tryd.prog ((w13.alloc (.cells (bys [195, 169]).toArray 5 (2, 3))).alloc (.cells #[.int .u8 101, .int .u8 204, .int .u8 129] 5)) = .ok (.slice (some ⟨w13.heap.size + 1, 0, none⟩) 3 3) ((w13.alloc (.cells (bys [195, 169]).toArray 5 (2, 3))).alloc (.cells (bys [101, 204, 129]).toArray 5 (3, 4))) := by
    have h := conv_lits 3 (w13.alloc (.cells (bys [195, 169]).toArray 5 (2, 3))) #[.int .u8 101, .int .u8 204, .int .u8 129]
    rw [World.size_alloc] at h
    exact h
  clear p1 q2 q3 heq
  go_wp2_with fail
  have hr1 : Rd (w13.alloc (.cells (bys [195, 169]).toArray 5 (2, 3))) (w13.heap.size + 1) (some ⟨w13.heap.size, 0, none⟩) (bys [195, 169]) := rd_lit w13 _ (2, 3) (bys [195, 169])
  have hr2 : Rd ((w13.alloc (.cells (bys [195, 169]).toArray 5 (2, 3))).alloc (.cells (bys [101, 204, 129]).toArray 5 (3, 4))) (w13.heap.size + 2) (some ⟨w13.heap.size + 1, 0, none⟩) (bys [101, 204, 129]) := by
    have h := rd_lit (w13.alloc (.cells (bys [195, 169]).toArray 5 (2, 3))) 5 (3, 4) (bys [101, 204, 129])
    rw [World.size_alloc] at h
    exact h
  refine (same_at [195, 169] [101, 204, 129] 2 3 true E15.out rfl rfl _ _ _ _ _ X15.out.laid ((hr1.alloc (by simp) _).more (by simp)) (hr2.more (by simp)) (Nat.le_refl _) (by decide) (Nat.le_refl _) (by decide) (by decide) (by decide)).mono ?_
  rintro e w16 ⟨rfl, hb16⟩
  have X16 := Lib.hid (X15.out.next hb16)
  clear hb16 hcv hcv2 hr1 hr2 X13 X14 X15
  have X17 := Lib.hid (X16.out.alloc (.cells (bys [97, 98]).toArray 5 (2, 3)))
  have hcv : (convert 31 31 (.slice (some ⟨w16.heap.size, 0, none⟩) 2 2)).run Tryd.prog (w16.alloc (.cells #[.int .u8 97, .int .u8 98] 5)) = .ok (.slice (some ⟨w16.heap.size, 0, none⟩) 2 2) (w16.alloc (.cells (bys [97, 98]).toArray 5 (2, 3))) := conv_lits 2 w16 _
  go_wp2_with fail
  refine (texts_at [97, 98] 2 2 E16.out rfl _ _ _ X17.out.laid ((rd_lit w16 _ (2, 3) (bys [97, 98])).more (by simp)) (Nat.le_refl _) (by decide) (by decide)).mono ?_
  rintro e w18 ⟨A18, c18, rfl, hb18⟩
  have X18 := Lib.hid (X17.out.next hb18)
  clear hb18 hcv
  go_wp2_with fail
  go_ret
  exact ⟨rfl, by have h := X18.out.bel; rwa [HBE.out] at h⟩
end Go.Proofs.YtbljomfofgocaaaDoor.Seg
