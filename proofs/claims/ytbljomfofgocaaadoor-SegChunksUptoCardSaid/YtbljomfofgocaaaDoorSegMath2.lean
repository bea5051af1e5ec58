/-
  PLAIN MATHEMATICS OF A TEXT's SEGMENTS: where they lie, what they say, equivalence. Nothing of the program stands here.
-/
import Derived.Test.YtbljomfofgocaaaDoorSegMath
import Derived.Test.YtbljomfofgocaaaDoorUtfMath2
import Derived.Test.YtbljomfofgocaaaDoorUtfMath3
namespace Go.Proofs.YtbljomfofgocaaaDoor.Seg
open Utf Norm
open Ucd hiding same

/-! ### segments of code points -/
def opP (q : Pt) : Bool := opn (q.r : Int)
def runs (g : List Pt) : List Int := g.map fun q => (q.r : Int)
def flen (g : List Pt) : Nat := (fulls (runs g)).length
def str (l : List UInt8) : ByteArray := ⟨l.toArray⟩
def beg (g : List Pt) : Nat := (g.head?.map fun q => q.p).getD 0
def fin (g : List Pt) : Nat := (g.getLast?.map fun q => q.p + q.w).getD 0
/-- a segment: its text, where it begins, where it ends -/
structure Sg where
  t : ByteArray
  a : Nat
  e : Nat
def saysN (R : List Int) : ByteArray := str (enc (normal R))
def says (g : List Pt) : ByteArray := saysN (runs g)
def sgOf (g : List Pt) : Sg := ⟨says g, beg g, fin g⟩
def grp (ps : List Pt) : List (List Pt) := cuts opP ps
/-- the Texts of a text's segments -/
def texts (l : List UInt8) : List ByteArray := (grp (dec false 0 l)).map says
theorem runs_append (a b : List Pt) : runs (a ++ b) = runs a ++ runs b := List.map_append
theorem flen_append (a b : List Pt) : flen (a ++ b) = flen a + flen b := by rw [flen, runs_append, fulls_append, List.length_append]; rfl
theorem flen_grows (a b : List Pt) : flen a ≤ flen (a ++ b) := by rw [flen_append]; omega
theorem flen_le (g : List Pt) : flen g ≤ 3 * g.length := by have := fulls_len (runs g); rw [runs, List.length_map] at this; exact this
theorem flen_pos {g : List Pt} (h : g ≠ []) : 1 ≤ flen g := by
  cases g with
  | nil => exact absurd rfl h
  | cons q t => have := full_some (q.r : Int); rw [flen, runs, List.map_cons, fulls_cons, List.length_append]; omega
theorem normal_len (R : List Int) : (normal R).length = (fulls R).length := nf_len _
theorem normal_fulls (R : List Int) : normal (fulls R) = normal R := by rw [normal, fulls_self (fulls_bottom R)]; rfl
theorem grp_runs (ps : List Pt) : cuts opn (runs ps) = (grp ps).map runs := cuts_map (fun q : Pt => (q.r : Int)) (fun _ => rfl) ps

/-! ### the normal form, group by group -/
theorem full_opn (r : Int) : ∃ x t, fullF r = x :: t ∧ opn x = opn r ∧ ∀ y ∈ t, opn y = false := by
  obtain ⟨h1, _, _, h4, h5⟩ := bottom_parts r
  cases h : fullF r with
  | nil => rw [h] at h1; simp at h1
  | cons x t => rw [h] at h4 h5; exact ⟨x, t, rfl, h5, h4⟩
theorem opn_cls {x : Int} (h : opn x = true) (hb : (pairF x).2.2 = 0) : cls x = 0 := by
  have e : fullF x = [x] := full_self hb
  have : opn x = (cls (fstF x) == 0 && !trl (fstF x)) := rfl
  rw [h, fstF, e] at this
  simp only [List.headD_cons] at this
  simpa using ((Bool.and_eq_true _ _).mp this.symm).1
theorem fulls_closed : ∀ {t : List Int}, (∀ x ∈ t, opn x = false) → ∀ x ∈ fulls t, opn x = false
  | [], _, x, hx => by simp [fulls] at hx
  | r :: t, h, x, hx => by
    rw [fulls_cons] at hx
    rcases List.mem_append.1 hx with hx | hx
    · obtain ⟨y, u, e, h1, h2⟩ := full_opn r
      rw [e] at hx
      rcases List.mem_cons.1 hx with rfl | hx
      · rw [h1]; exact h r (by simp)
      · exact h2 x hx
    · exact fulls_closed (t := t) (fun y hy => h y (by simp [hy])) x hx
theorem normal_some {R : List Int} (h : R ≠ []) : normal R ≠ [] := by
  intro e
  have := normal_len R
  rw [e] at this
  cases R with
  | nil => exact h rfl
  | cons r t => have := full_some r; rw [fulls_cons] at *; simp at *; omega
theorem normal_opn {R : List Int} (h : Opn opn R) : Opn opn (normal R) := by
  obtain ⟨q, t, rfl, hq, ht⟩ := h
  obtain ⟨x, u, e, h1, h2⟩ := full_opn q
  have hx : opn x = true := h1.trans hq
  have hb : (pairF x).2.2 = 0 := fulls_bottom (q :: t) x (by rw [fulls_cons, e]; simp)
  have hn : normal (q :: t) = x :: nf (u ++ fulls t) := by
    rw [normal, fulls_cons, e, List.cons_append, nf, nfm_start [] _ (opn_cls hx hb)]; rfl
  rw [hn]
  refine ⟨x, _, rfl, hx, fun y hy => ?_⟩
  rcases List.mem_append.1 ((mem_nf _).1 hy) with hy | hy
  · exact h2 y hy
  · exact fulls_closed ht y hy
theorem normal_one {R : List Int} (h : One opn R) : One opn (normal R) := by
  obtain ⟨q, t, rfl, ht⟩ := h
  by_cases hq : opn q = true
  · exact (normal_opn ⟨q, t, rfl, hq, ht⟩).one
  · have hc : ∀ x ∈ normal (q :: t), opn x = false := fun x hx => by
      refine fulls_closed (t := q :: t) (fun y hy => ?_) x ((mem_nf _).1 hx)
      rcases List.mem_cons.1 hy with rfl | hy
      · simpa using hq
      · exact ht y hy
    cases hn : normal (q :: t) with
    | nil => exact absurd hn (normal_some (by simp))
    | cons y u => rw [hn] at hc; exact ⟨y, u, rfl, fun z hz => hc z (by simp [hz])⟩
theorem good_normal (gs : List (List Int)) : Good opn gs → normal gs.flatten = (gs.map normal).flatten ∧ Good opn (gs.map normal) := by
  refine snoc_ind (p := fun gs => Good opn gs → normal gs.flatten = (gs.map normal).flatten ∧ Good opn (gs.map normal)) (fun _ => ⟨rfl, fun g hg => by simp at hg, fun g hg => by simp at hg⟩) (fun gs g ih h => ?_) gs
  obtain ⟨h1, h2, h3⟩ := h.unsnoc opn
  obtain ⟨i1, i2⟩ := ih h1
  rw [List.map_append, List.map_singleton, List.flatten_append, List.flatten_append, List.flatten_singleton, List.flatten_singleton]
  refine ⟨?_, i2.put opn (normal_one h2) fun hn => normal_opn (h3 (by rintro rfl; exact hn rfl))⟩
  by_cases hn : gs = []
  · subst hn; simp
  · obtain ⟨q, t, rfl, hq, _⟩ := h3 hn
    rw [normal_cut _ _ _ hq, i1]
theorem normal_flat (R : List Int) : normal R = ((cuts opn R).map normal).flatten := by
  have h := (good_normal _ (cuts_good opn R)).1
  rwa [cuts_flat] at h
theorem cuts_normal (R : List Int) : cuts opn (normal R) = (cuts opn R).map normal := by
  have h := good_cuts opn _ (good_normal _ (cuts_good opn R)).2
  rwa [← normal_flat] at h

/-! ### what is well-formed stays so -/
theorem full_vld (r : Int) : vld r = true → (fullF r).all vld = true := by
  refine kinds (fun r => vld r = true → (fullF r).all vld = true) (fun r h hv => by rw [fullF, full_plain 3 h]; simp [hv]) (by decide +kernel) (fun s h0 h1 _ => ?_) (by decide +kernel) r
  have v1 : vld (4352 + s / 588) = true := (vld_iff _).2 (by omega)
  have v2 : vld (4449 + s % 588 / 28) = true := (vld_iff _).2 (by omega)
  have v3 : vld (4519 + s % 28) = true := (vld_iff _).2 (by omega)
  by_cases hz : s % 28 = 0
  · rw [fullF, full_open 2 h0 h1 hz]; simp [v1, v2]
  · rw [fullF, full_closed 1 h0 h1 hz]; simp [v1, v2, v3]
theorem normal_vld {R : List Int} (h : ∀ x ∈ R, vld x = true) : ∀ x ∈ normal R, vld x = true := fun x hx => by
  obtain ⟨r, hr, hx⟩ := List.mem_flatMap.1 ((mem_nf _).1 hx)
  exact List.all_eq_true.1 (full_vld r (h r hr)) x hx
theorem dec_vld (o : Bool) (l : List UInt8) : ∀ k, ∀ q ∈ dec o k l, vld (q.r : Int) = true := by
  refine pieces (P := fun l => ∀ k, ∀ q ∈ dec o k l, vld (q.r : Int) = true) (fun k q h => by simp [dec_nil] at h) (fun l hl ih k q h => ?_) l
  rw [dec_cons o k hl] at h
  split at h
  · simp at h
  · rcases List.mem_cons.1 h with rfl | h
    · exact (vld_pt (rune_pt hl)).1
    · exact ih _ q h
theorem runes_vld (l : List UInt8) : ∀ x ∈ runesF l, vld x = true := fun x hx => by
  obtain ⟨q, hq, rfl⟩ := List.mem_map.1 hx
  exact dec_vld false l 0 q hq
theorem fix_vld {x : Int} (h : vld x = true) : (fix x : Int) = x := by
  have := (vld_iff x).1 h
  unfold fix; rw [if_pos h]; omega
theorem runes_enc {l : List Int} (h : ∀ x ∈ l, vld x = true) : runesF (enc l) = l := by
  obtain ⟨h1, h2⟩ := dec_enc l 0
  refine List.ext_getElem (by simp [runesF, h1]) fun i hi hj => ?_
  have h3 := h2 i hj
  have hi' : i < (dec false 0 (enc l)).length := by rw [h1]; exact hj
  rw [List.getElem?_eq_getElem hi', Option.map_some, Option.some.injEq] at h3
  simp only [runesF, List.getElem_map, h3]
  exact fix_vld (h _ (List.getElem_mem hj))
theorem runes_enc_len (l : List Int) : (runesF (enc l)).length = l.length := by rw [runesF, List.length_map]; exact (dec_enc l 0).1
theorem runes_text (l : List UInt8) : runesF (textF l) = normal (runesF l) := runes_enc (normal_vld (runes_vld l))
theorem text_text (l : List UInt8) : textF (textF l) = textF l := by rw [textF, runes_text, normal_normal]; rfl
theorem text_eq {a b : List UInt8} (h : textF a = textF b) : normal (runesF a) = normal (runesF b) := by rw [← runes_text, ← runes_text, h]
theorem enc_append (a b : List Int) : enc (a ++ b) = enc a ++ enc b := List.flatMap_append
theorem enc_flat (gs : List (List Int)) : enc gs.flatten = (gs.map enc).flatten := by
  induction gs with
  | nil => rfl
  | cons g t ih => rw [List.flatten_cons, enc_append, ih]; rfl
theorem runes_dec (l : List UInt8) : runesF l = runs (dec false 0 l) := rfl
theorem texts_cuts (l : List UInt8) : texts l = (cuts opn (runesF l)).map saysN := by
  rw [runes_dec, grp_runs, List.map_map]; rfl
/-- the Texts, one behind the other, are the text's normal form -/
theorem text_flat (l : List UInt8) : textF l = ((texts l).map fun t => t.data.toList).flatten := by
  rw [texts_cuts, List.map_map, textF, normal_flat, enc_flat, List.map_map]
  congr 1
theorem texts_of_normal {l : List UInt8} : texts l = (cuts opn (normal (runesF l))).map fun g => str (enc g) := by
  rw [cuts_normal, texts_cuts, List.map_map]; rfl
/-- texts are equivalent just where their segments' Texts are the same -/
theorem texts_eq (a b : List UInt8) : texts a = texts b ↔ textF a = textF b := by
  refine ⟨fun h => by rw [text_flat, text_flat, h], fun h => ?_⟩
  rw [texts_of_normal, texts_of_normal, text_eq h]
theorem texts_text (l : List UInt8) : texts (textF l) = texts l := (texts_eq _ _).2 (text_text l)

/-! ### where they lie -/
def ww (ps : List Pt) : Nat := (ps.map fun q => q.w).sum
def Tile : Nat → List Pt → Prop
  | _, [] => True
  | k, q :: t => q.p = k ∧ 1 ≤ q.w ∧ Tile (k + q.w) t
theorem ww_nil : ww [] = 0 := rfl
theorem ww_cons (q : Pt) (t : List Pt) : ww (q :: t) = q.w + ww t := by simp [ww]
theorem ww_append (a b : List Pt) : ww (a ++ b) = ww a + ww b := by simp [ww]
theorem tile_append : ∀ {a b : List Pt} {k : Nat}, Tile k (a ++ b) ↔ Tile k a ∧ Tile (k + ww a) b
  | [], b, k => by simp [Tile, ww_nil]
  | q :: t, b, k => by simp only [List.cons_append, Tile, tile_append (a := t), ww_cons, Nat.add_assoc]; exact ⟨fun ⟨h1, h2, h3, h4⟩ => ⟨⟨h1, h2, h3⟩, h4⟩, fun ⟨⟨h1, h2, h3⟩, h4⟩ => ⟨h1, h2, h3, h4⟩⟩
theorem dec_tile (o : Bool) (l : List UInt8) : ∀ k, Tile k (dec o k l) := by
  refine pieces (P := fun l => ∀ k, Tile k (dec o k l)) (fun k => trivial) (fun l hl ih k => ?_) l
  rw [dec_cons o k hl]
  split
  · trivial
  · exact ⟨rfl, wid_pos hl, ih _⟩
theorem ww_eat (l : List UInt8) : ∀ k, ww (dec true k l) = eat l := by
  refine pieces (P := fun l => ∀ k, ww (dec true k l) = eat l) (fun k => rfl) (fun l hl ih k => ?_) l
  cases hm : more l with
  | true => rw [dec_stop hl hm, eat_stop hl hm]; rfl
  | false => rw [dec_step true k hl (by simp [hm]), eat_step hl hm, ww_cons, ih]
theorem ww_all (l : List UInt8) : ∀ k, ww (dec false k l) = l.length := by
  refine pieces (P := fun l => ∀ k, ww (dec false k l) = l.length) (fun k => rfl) (fun l hl ih k => ?_) l
  rw [dec_step false k hl (by simp), ww_cons, ih, List.length_drop]
  have := wid_le l
  show wid l + _ = _
  omega
theorem tile_beg {k : Nat} {g : List Pt} (h : Tile k g) (hg : g ≠ []) : beg g = k := by
  cases g with
  | nil => exact absurd rfl hg
  | cons q t => exact h.1
theorem fin_snoc (g : List Pt) (q : Pt) : fin (g ++ [q]) = q.p + q.w := by simp [fin]
theorem beg_snoc {g : List Pt} (hg : g ≠ []) (q : Pt) : beg (g ++ [q]) = beg g := by
  cases g with
  | nil => exact absurd rfl hg
  | cons x t => rfl
theorem tile_fin {k : Nat} {g : List Pt} (h : Tile k g) (hg : g ≠ []) : fin g = k + ww g := by
  refine snoc_ind (p := fun g => Tile k g → g ≠ [] → fin g = k + ww g) (fun _ h => absurd rfl h) (fun l q _ h _ => ?_) g h hg
  rw [fin_snoc, ww_append, ww_cons, ww_nil]
  have := (tile_append.1 h).2.1
  omega
theorem tile_len : ∀ {k : Nat} {g : List Pt}, Tile k g → g.length ≤ ww g
  | _, [], _ => Nat.le_refl _
  | k, q :: t, h => by have := tile_len h.2.2; rw [ww_cons, List.length_cons]; have := h.2.1; omega
theorem run_take (l : List UInt8) : ∀ (k n a b m : Nat), run k n a b l ≤ k + m → run k n a b (l.take m) = run k n a b l := by
  induction l with
  | nil => intro k n a b m _; simp
  | cons c t ih =>
    intro k n a b m h
    cases m with
    | zero =>
      have := run_ge (c :: t) k n a b
      have e : run k n a b (c :: t) = k := by omega
      rw [e]
      rfl
    | succ m =>
      simp only [List.take_succ_cons, run] at h ⊢
      split
      · rename_i hc
        rw [if_pos hc] at h
        exact ih _ _ _ _ _ (by omega)
      · rfl
theorem wid_take {l : List UInt8} (hl : l ≠ []) {n : Nat} (h : wid l ≤ n) : wid (l.take n) = wid l ∧ nd (l.take n) = nd l ∧ rune (l.take n) = rune l ∧ l.take n ≠ [] := by
  cases l with
  | nil => exact absurd rfl hl
  | cons c t =>
    have hp := wid_pos hl
    cases n with
    | zero => omega
    | succ n =>
      have hw : wid (c :: t.take n) = wid (c :: t) := run_take t _ _ _ _ n (by simp only [wid] at h; omega)
      refine ⟨hw, rfl, ?_, by simp⟩
      rw [List.take_succ_cons]
      unfold rune
      rw [hw]
      have e : (c :: t.take n).take (wid (c :: t)) = (c :: t).take (wid (c :: t)) := by
        rw [← List.take_succ_cons, List.take_take, Nat.min_eq_left h]
      rw [e]
      rfl
/-- a text read from a place on, and up to a place, where code points begin -/
theorem dec_cut : ∀ (a b : List Pt) (l : List UInt8) (k : Nat), dec false k l = a ++ b → dec false (k + ww a) (l.drop (ww a)) = b ∧ dec false k (l.take (ww a)) = a
  | [], b, l, k, h => by simp [ww_nil, dec_nil]; exact h
  | q :: t, b, l, k, h => by
    have hl : l ≠ [] := by rintro rfl; simp [dec_nil] at h
    rw [dec_step false k hl (by simp), List.cons_append] at h
    injection h with h1 h2
    have hw : q.w = wid l := by rw [← h1]
    obtain ⟨i1, i2⟩ := dec_cut t b _ _ h2
    have hle : wid l ≤ ww (q :: t) := by rw [ww_cons]; omega
    obtain ⟨t1, t2, t3, t4⟩ := wid_take hl hle
    refine ⟨?_, ?_⟩
    · rw [ww_cons, hw, ← Nat.add_assoc, ← i1, List.drop_drop]
    · rw [dec_step false k t4 (by simp), t1, t3, h1]
      congr 1
      rw [List.drop_take, ww_cons, hw, Nat.add_sub_cancel_left]
      exact i2
theorem dec_runs (o : Bool) (l : List UInt8) : ∀ k j, runs (dec o k l) = runs (dec o j l) := by
  refine pieces (P := fun l => ∀ k j, runs (dec o k l) = runs (dec o j l)) (fun k j => rfl) (fun l hl ih k j => ?_) l
  rw [dec_cons o k hl, dec_cons o j hl]
  split
  · rfl
  · have := ih (k + wid l) (j + wid l)
    simp only [runs, List.map_cons] at this ⊢
    rw [this]
/-- the raw bytes of a segment say what the segment says -/
theorem piece_text {l : List UInt8} {a g b : List Pt} (h : dec false 0 l = a ++ g ++ b) : textF ((l.drop (ww a)).take (ww g)) = enc (normal (runs g)) := by
  rw [List.append_assoc] at h
  obtain ⟨h1, _⟩ := dec_cut _ _ _ _ h
  obtain ⟨_, h3⟩ := dec_cut _ _ _ _ h1
  rw [textF, runes_dec, dec_runs false _ 0 (0 + ww a), h3]

/-! ### how many there are; two texts -/
theorem cuts_len_snoc (R : List Int) (x : Int) : (cuts opn (R ++ [x])).length = (cuts opn R).length + if (opn x || R.isEmpty) = true then 1 else 0 := by
  by_cases hR : R = []
  · subst hR; rw [List.nil_append, cuts_one opn x [] (by simp)]; simp [cuts_nil]
  · have h := gfold_some opn hR ([], [])
    have hR' : R.isEmpty = false := by simpa using hR
    rw [cuts_some opn (by simp), cuts_some opn hR, gfold_snoc]
    obtain ⟨T, O, hs⟩ : ∃ T O, gfold opn ([], []) R = (T, O) := ⟨_, _, rfl⟩
    rw [hs] at h ⊢
    by_cases hx : opn x = true
    · rw [gstep_new opn hx h]; simp [hx]
    · have hx : opn x = false := by simpa using hx
      rw [gstep_on opn (.inl hx)]; simp [hx, hR']
theorem more_ascii {l : List UInt8} {c : UInt8} (hc : c.toNat < 128) : more (l ++ [c]) = false := by
  cases hm : more (l ++ [c]) with
  | false => rfl
  | true =>
    obtain ⟨h1, h2, h3, _⟩ := more_short hm
    by_cases hl : l = []
    · subst hl
      have : nd [c] = 1 := by simp [nd, need, hc]
      rw [List.nil_append] at h2 h3
      rw [this, h2] at h3
      simp at h3
    · cases l with
      | nil => exact absurd rfl hl
      | cons d t =>
        exfalso
        rw [List.cons_append] at h2 h3
        simp only [wid, nd, List.length_cons, List.length_append, List.length_nil] at h2 h3
        have hlo : 128 ≤ lo d.toNat := by unfold lo; split; · omega
                                          · split <;> omega
        have := run_stop c hc t 1 (need d.toNat) (lo d.toNat) (hi d.toNat) hlo
        have h4 := run_le (t ++ [c]) 1 (need d.toNat) (lo d.toNat) (hi d.toNat)
        have h5 : run 1 (need d.toNat) (lo d.toNat) (hi d.toNat) t = 1 + t.length → False := fun e => by
          have := this e; omega
        have h6 : run 1 (need d.toNat) (lo d.toNat) (hi d.toNat) (t ++ [c]) = run 1 (need d.toNat) (lo d.toNat) (hi d.toNat) t := by
          refine run_append t [c] _ _ _ _ (.inr ?_)
          have := run_le t 1 (need d.toNat) (lo d.toNat) (hi d.toNat)
          omega
        rw [h6] at h2
        have := run_le t 1 (need d.toNat) (lo d.toNat) (hi d.toNat)
        omega
theorem eat_ascii (l : List UInt8) (c : UInt8) (hc : c.toNat < 128) : eat (l ++ [c]) = (l ++ [c]).length := by
  have hle := eat_le (l ++ [c])
  rcases rest_more (l ++ [c]) with h | h
  · have := congrArg List.length h; rw [List.length_drop] at this; simp only [List.length_nil] at this; omega
  · exfalso
    by_cases hn : eat (l ++ [c]) ≤ l.length
    · rw [List.drop_append_of_le_length hn] at h
      rw [more_ascii hc] at h; cases h
    · have : (l ++ [c]).drop (eat (l ++ [c])) = [] := List.drop_of_length_le (by rw [List.length_append, List.length_singleton]; omega)
      rw [this] at h
      simp [more, wid, nd] at h
theorem runes_join (l m : List UInt8) (c : UInt8) (hc : c.toNat < 128) : runesF (l ++ [c] ++ m) = runesF (l ++ [c]) ++ runesF m := by
  have e := eat_ascii l c hc
  have h1 := dec_append false (l ++ [c]) m 0
  have h2 := dec_append false (l ++ [c]) [] 0
  rw [e, List.drop_length, List.nil_append] at h1 h2
  rw [List.append_nil, dec_nil, List.append_nil] at h2
  rw [runes_dec, h1, runs_append, ← h2, dec_runs false m _ 0]
  rfl
theorem texts_join (l m : List UInt8) (c : UInt8) (hc : c.toNat < 128) (hm : ∀ r t, runesF m = r :: t → opn r = true) : texts (l ++ [c] ++ m) = texts (l ++ [c]) ++ texts m := by
  rw [texts_cuts, texts_cuts, texts_cuts, runes_join l m c hc]
  cases h : runesF m with
  | nil => rw [List.append_nil, cuts_nil]; simp
  | cons r t =>
    have hn : runesF (l ++ [c]) ≠ [] := by
      intro e
      have := ww_all (l ++ [c]) 0
      have e2 : dec false 0 (l ++ [c]) = [] := by simpa [runesF] using e
      rw [e2] at this
      simp [ww_nil] at this
    rw [cuts_open opn hn (hm r t h), List.map_append]
end Go.Proofs.YtbljomfofgocaaaDoor.Seg
