/-
  SEGMENTS AND TEXTS AS CELLS; A SEGMENTER IN MEMORY; contracts of begin, New, stop, Pending, Err.
-/
import Derived.Test.YtbljomfofgocaaaDoorSegMath2
import Derived.Test.YtbljomfofgocaaaDoorUtfWrites
namespace Go.Proofs.YtbljomfofgocaaaDoor.Seg
open Go.Shelf Go.RowKit Go.Sort
open Utf hiding infoI32 rd_new own_form rdec_any below_drewN new_any write_any close_any
open Ucd hiding grow same Told
open Norm hiding new_any write_any close_any pending_any pending_nil write_nil write_closed close_nil
set_option maxRecDepth 100000

def sgs (l : List Sg) : List Value := l.flatMap fun x => [.string x.t, .int .i64 x.a, .int .i64 x.e]
def strs (l : List ByteArray) : List Value := l.map .string
theorem strs_len (l : List ByteArray) : (strs l).length = l.length := List.length_map _
theorem strs_append (l m : List ByteArray) : strs (l ++ m) = strs l ++ strs m := List.map_append
theorem strs_get {l : List ByteArray} {k : Nat} (h : k < l.length) : (strs l)[k]? = some (.string l[k]) := by simp [strs, List.getElem?_eq_getElem h]
theorem strs_one (l : List ByteArray) : ∀ u ∈ strs l, u.oneCell' = true := by intro u hu; simp only [strs, List.mem_map] at hu; obtain ⟨n, _, rfl⟩ := hu; rfl
theorem sgs_len (l : List Sg) : (sgs l).length = l.length * 3 := by
  induction l with
  | nil => rfl
  | cons q t ih => simp only [sgs, List.flatMap_cons, List.length_append, List.length_cons, List.length_nil] at ih ⊢; omega
theorem sgs_append (l m : List Sg) : sgs (l ++ m) = sgs l ++ sgs m := List.flatMap_append
theorem sgs_cons (q : Sg) (t : List Sg) : sgs (q :: t) = .string q.t :: .int .i64 q.a :: .int .i64 q.e :: sgs t := rfl
theorem sgs_get (l : List Sg) : ∀ {k : Nat} (h : k < l.length), (sgs l)[k * 3]? = some (.string l[k].t) ∧ (sgs l)[k * 3 + 1]? = some (.int .i64 l[k].a) ∧ (sgs l)[k * 3 + 2]? = some (.int .i64 l[k].e) := by
  induction l with
  | nil => intro k h; simp at h
  | cons q t ih =>
    intro k h
    rw [sgs_cons]
    cases k with
    | zero => exact ⟨rfl, rfl, rfl⟩
    | succ k =>
      have := ih (k := k) (by simpa using h)
      rw [show (k + 1) * 3 = k * 3 + 1 + 1 + 1 from by omega]
      simpa using this
theorem sgs_drop (l : List Sg) : ∀ k, (sgs l).drop (k * 3) = sgs (l.drop k) := by
  induction l with
  | nil => intro k; simp [sgs]
  | cons q t ih =>
    intro k
    cases k with
    | zero => simp
    | succ k => rw [sgs_cons, show (k + 1) * 3 = k * 3 + 1 + 1 + 1 from by omega]; simpa using ih k
theorem sgs_take (l : List Sg) : ∀ k, (sgs l).take (k * 3) = sgs (l.take k) := by
  induction l with
  | nil => intro k; simp [sgs]
  | cons q t ih =>
    intro k
    cases k with
    | zero => simp [sgs]
    | succ k => rw [sgs_cons, show (k + 1) * 3 = k * 3 + 1 + 1 + 1 from by omega]; simpa [sgs_cons] using ih k
theorem sgs_one (l : List Sg) : ∀ u ∈ sgs l, u.oneCell' = true := by
  intro u hu
  simp only [sgs, List.mem_flatMap, List.mem_cons, List.not_mem_nil, or_false] at hu
  obtain ⟨n, _, rfl | rfl | rfl⟩ := hu <;> rfl
section
variable {w : World} {B : Nat}
theorem Rd_sg {l : List Sg} {b o : Nat} (h : Rd w B (some ⟨b, o, none⟩) (sgs l)) {k : Nat} (hk : k < l.length) :
    w.cell? ⟨b, o + k * 3, none⟩ = some (.string l[k].t) ∧ w.cell? ⟨b, o + k * 3 + 1, none⟩ = some (.int .i64 l[k].a) ∧ w.cell? ⟨b, o + k * 3 + 2, none⟩ = some (.int .i64 l[k].e) := by
  have hne : sgs l ≠ [] := by intro e; have := congrArg List.length e; rw [sgs_len, List.length_nil] at this; omega
  obtain ⟨b', o', e, _, hc⟩ := h hne
  simp only [Option.some.injEq, Addr.mk.injEq, and_true] at e
  obtain ⟨rfl, rfl⟩ := e
  obtain ⟨h1, h2, h3⟩ := sgs_get l hk
  exact ⟨hc _ _ h1, by rw [Nat.add_assoc]; exact hc _ _ h2, by rw [Nat.add_assoc]; exact hc _ _ h3⟩
theorem Rd_str {l : List ByteArray} {b o : Nat} (h : Rd w B (some ⟨b, o, none⟩) (strs l)) {k : Nat} (hk : k < l.length) : w.cell? ⟨b, o + k, none⟩ = some (.string l[k]) := by
  have hne : strs l ≠ [] := by intro e; have := congrArg List.length e; rw [strs_len, List.length_nil] at this; omega
  obtain ⟨b', o', e, _, hc⟩ := h hne
  simp only [Option.some.injEq, Addr.mk.injEq, and_true] at e
  obtain ⟨rfl, rfl⟩ := e
  exact hc _ _ (strs_get hk)
end
theorem infoSg : (Tryd.prog.info? 58).map (fun i => (i.zero, i.size, i.bytes)) = some (some (.agg #[.string ⟨#[]⟩, .int .i64 0, .int .i64 0]), 3, 32) := by kernel_rfl
theorem infoStr : (Tryd.prog.info? 9).map (fun i => (i.zero, i.size, i.bytes)) = some (some (.string ⟨#[]⟩), 1, 16) := by kernel_rfl

theorem own_apart {w : World} {b1 b2 : Nat} {e1 e2 : TypeId} {s1 s2 n1 n2 : Nat} {v1 v2 : Value} {xs1 xs2 : List Value} (h1 : w.ownsRow b1 e1 s1 v1 n1 xs1) (h2 : w.ownsRow b2 e2 s2 v2 n2 xs2) (hne : e1 ≠ e2) : ∀ k, v1.ownBlock = some k → v2.ownBlock = some k → False := by
  intro k k1 k2
  rcases h1.2 with ⟨rfl, _⟩ | ⟨g1, cap1, cur1, rfl, _, hh1, _⟩
  · cases k1
  · rcases h2.2 with ⟨rfl, _⟩ | ⟨g2, cap2, cur2, rfl, _, hh2, _⟩
    · cases k2
    · simp only [Value.ownBlock, Option.some.injEq] at k1 k2
      subst k1; subst k2
      rw [hh1] at hh2
      simp only [Option.some.injEq, Obj.cells.injEq] at hh2
      exact hne hh2.2.1
theorem step_append_rd {P : Program} {w : World} {ops : Array Oper} {o : Oper} {a : Act} {K : Act → World → Prop} {Q : Exit → Act → World → Prop} {E : Prop} (hgd : o.guard = none) (s x : Operand) (t : TypeId)
    (ho : o.op = .call { callee := .builtin .append, args := #[s, x], argTypes := #[t, t] })
    (base : Nat) (e : TypeId) (i : TypeInfo) (z : Value) (size bytes : Nat) (ht : P.underlying t = some (.slice e)) (hi : P.info? e = some i) (hz : i.zero = some z)
    (hsize : i.size = size) (hby : i.bytes = bytes) (hzs : z.cells.size = size) (hsz : 0 < size)
    (v : Value) (n : Nat) (xs : List Value) (hs : a.eval s = v) (hown : w.ownsRow base e size v n xs)
    (B : Nat) (A : Option Addr) (m c : Nat) (news : List Value) (hx : a.eval x = .slice A m c) (hl : news.length = m * size) (hr : Rd w B A news) (h1 : ∀ u ∈ news, u.oneCell' = true)
    (h63 : n + m ≤ maxLen) (hbytes : (n + m) * bytes ≤ 140737488355328) (hbase : base ≤ w.heap.size)
    (h : ∀ v' w', w'.ownsRow base e size v' (n + m) (xs ++ news) → w.grownBy w' v.ownBlock → (v'.ownBlock = v.ownBlock ∨ v'.ownBlock = some w.heap.size) → K (a.put o.dst v') w') :
    if Region.wanted o (yielded ops a.tmps) = true then Oper.wp P o a w K Q else E := by
  have hw : Region.wanted o (yielded ops a.tmps) = true := by simp [Region.wanted, hgd]
  rw [if_pos hw]
  exact wp_append_rd w s x t ho base e i z size bytes ht hi hz hsize hby hzs hsz v n xs hs hown B A m c news hx hl hr h1 h63 hbytes hbase h

/-! ### a segmenter -/
/-- a segmenter's six cells -/
def scs (lim : Int) (dp : Value) (vo : Value) (a e : Nat) (er : Int) : List Value := [.int .i64 lim, dp, vo, .int .i64 a, .int .i64 e, .int .i64 er]
/-- how far the open segment reaches: ghosts are the points O that stand open -/
def Reach (O : List Pt) (a e : Nat) : Prop := (O = [] → a = e) ∧ (O ≠ [] → a = beg O ∧ e = fin O)
theorem Reach.start (a : Nat) : Reach [] a a := ⟨fun _ => rfl, fun h => absurd rfl h⟩
theorem Reach.put {O : List Pt} {a e : Nat} (h : Reach O a e) {q : Pt} (hq : q.p = e) : Reach (O ++ [q]) a (q.p + q.w) := by
  refine ⟨fun h => by simp at h, fun _ => ⟨?_, (fin_snoc O q).symm⟩⟩
  by_cases hO : O = []
  · subst hO; rw [h.1 rfl, ← hq]; rfl
  · rw [beg_snoc hO]; exact (h.2 hO).1
/-- A SEGMENTER that stands at block sb, its decoder at block db; the open row lies from base on -/
structure Sm (w : World) (base sb db : Nat) (lim : Int) (dc : List Value) (vo : Value) (O : List Pt) (a e : Nat) : Prop where
  blk : Blk w sb 65 (scs lim (.pointer (some ⟨db, 0, none⟩)) vo a e 0)
  dec : Blk w db 91 dc
  own : w.ownsRow base 21 1 vo (fulls (runs O)).length (nums (fulls (runs O)))
  le : base ≤ sb
  led : base ≤ db
  reach : Reach O a e
/-- what a segmenter's calls may turn -/
def Hers (sb db : Nat) (vo : Value) (k : Nat) : Prop := k = sb ∨ k = db ∨ vo.ownBlock = some k
/-- behind its end -/
def Done (w : World) (sb : Nat) (er : Int) : Prop := ∃ lim a e, Blk w sb 65 (scs lim (.pointer none) (.slice none 0 0) a e er)
section
variable {w w' : World} {base sb db a e : Nat} {lim : Int} {dc : List Value} {vo : Value} {O : List Pt}
theorem Sm.ne (h : Sm w base sb db lim dc vo O a e) : vo.ownBlock ≠ some sb := own_ne h.own h.blk (by decide)
theorem Sm.ned (h : Sm w base sb db lim dc vo O a e) : vo.ownBlock ≠ some db := own_ne h.own (show Blk _ _ _ _ from h.dec) (by decide)
theorem blk_apart {g g' : Nat} {t t' : TypeId} {cs cs' : List Value} (h : Blk w g t cs) (h' : Blk w g' t' cs') (hne : t ≠ t') : g ≠ g' := by
  rintro rfl
  unfold Blk at h h'
  rw [h] at h'
  injection h' with h'
  injection h' with _ ht
  exact hne ht
theorem Sm.apart (h : Sm w base sb db lim dc vo O a e) : sb ≠ db := blk_apart h.blk (show Blk _ _ _ _ from h.dec) (by decide)
theorem Sm.hers (h : Sm w base sb db lim dc vo O a e) {k : Nat} (hk : k < base) : ¬ Hers sb db vo k := fun hi => by
  rcases hi with rfl | rfl | hi
  · have := h.le; omega
  · have := h.led; omega
  · have := (h.own.lt k hi).1; omega
theorem Sm.keep {S : Nat → Prop} (h : Sm w base sb db lim dc vo O a e) (hg : Chg w w' S) (h1 : ¬ S sb) (h2 : ¬ S db) (h3 : ∀ k, vo.ownBlock = some k → ¬ S k) : Sm w' base sb db lim dc vo O a e :=
  ⟨blk_keep h.blk hg h1, blk_keep (show Blk _ _ _ _ from h.dec) hg h2, Norm.own_keep h.own hg h3, h.le, h.led, h.reach⟩
theorem Sm.next (h : Sm w base sb db lim dc vo O a e) (hb : Below w.heap.size w w') : Sm w' base sb db lim dc vo O a e :=
  h.keep (S := fun _ => False) (Chg.of_below hb (Nat.le_refl _)) id id (fun _ _ h => h)
end
theorem Blk_of_alloc (w : World) (t : TypeId) (cs : List Value) {w' : World} (h : w' = w.alloc (.cells cs.toArray t)) : Blk w' w.heap.size t cs := by rw [h]; exact Blk.new w t cs

/-- a new segmenter -/
def Fresh (w : World) (lim : Int) (e : Ending) (w' : World) : Prop :=
  ∃ sb db, e = .returned (.pointer (some ⟨sb, 0, none⟩)) ∧ Sm w' w.heap.size sb db lim (dcs 0 0 0 0 0 false) (.slice none 0 0) [] 0 0 ∧ Below w.heap.size w w'
set_option maxHeartbeats 1000000 in
theorem begin_any (lim : Int) (w : World) : Calls Tryd.prog 33 #[.int .i64 lim] w (Fresh w lim) := by
  go_enter Tryd.func33, Tryd.ntmps33
  go_wp2_with fail
  refine (Utf.new_any w).mono ?_
  rintro e w1 ⟨rfl, hw1⟩
  have HW := Lib.hid hw1
  clear hw1
  go_wp2_with fail
  go_ret
  have hD : Dc w1 w.heap.size 0 0 0 0 0 false := by rw [HW.out]; exact Blk.new w _ _
  have hs : w1.heap.size = w.heap.size + 1 := by rw [HW.out]; simp
  refine ⟨w1.heap.size, w.heap.size, rfl, ⟨Blk.new w1 _ (scs lim (.pointer (some ⟨w.heap.size, 0, none⟩)) (.slice none 0 0) 0 0 0), Blk.alloc hD _, World.ownsRow_nil _ _ _ _, by omega, Nat.le_refl _, Reach.start 0⟩, ?_⟩
  have hb : Below w.heap.size w w1 := by rw [HW.out]; exact (Below.refl _ _).alloc (Nat.le_refl _) _
  exact hb.alloc (by omega) _
def Made (w : World) (lim : Int) (e : Ending) (w' : World) : Prop :=
  ∃ sb db, e = .returned (.tuple #[.pointer (some ⟨sb, 0, none⟩), .int .i64 0]) ∧ Sm w' w.heap.size sb db lim (dcs 0 0 0 0 0 false) (.slice none 0 0) [] 0 0 ∧ Below w.heap.size w w'
set_option maxHeartbeats 1000000 in
theorem new_good (lim : Int) (w : World) (h1 : 1 ≤ lim) (h2 : lim ≤ 64) : Calls Tryd.prog 10 #[.int .i64 lim] w (Made w lim) := by
  have d1 : ¬ lim < 1 := by omega
  have d2 : ¬ 64 < lim := by omega
  have e1 : decide (lim < 1) = false := decide_eq_false d1
  have e2 : decide (64 < lim) = false := decide_eq_false d2
  have HB := Lib.hid (begin_any lim w)
  go_enter Tryd.func10, Tryd.ntmps10
  go_wp2_with fail
  refine HB.out.mono ?_
  rintro e w1 ⟨sb, db, rfl, hS, hb⟩
  have HS := Lib.hid hS
  have HBL := Lib.hid hb
  clear hS hb
  go_wp2_with fail
  go_ret2
  exact ⟨sb, db, rfl, HS.out, HBL.out⟩
theorem new_bad (lim : Int) (w : World) (h : lim < 1 ∨ 64 < lim) : Calls Tryd.prog 10 #[.int .i64 lim] w fun e w' => e = .returned (.tuple #[.pointer none, .int .i64 1]) ∧ w = w' := by
  by_cases h1 : lim < 1
  · have e1 : decide (lim < 1) = true := decide_eq_true h1
    clear h
    go_enter Tryd.func10, Tryd.ntmps10
    go_wp2
    go_ret2
    exact ⟨rfl, rfl⟩
  · have h2 : 64 < lim := by omega
    have e1 : decide (lim < 1) = false := decide_eq_false h1
    have e2 : decide (64 < lim) = true := decide_eq_true h2
    clear h
    go_enter Tryd.func10, Tryd.ntmps10
    go_wp2
    go_ret2
    exact ⟨rfl, rfl⟩

/-- its cells, whatever they hold -/
theorem stop_any (sb : Nat) (lim er er' : Int) (dp vo : Value) (a e : Nat) (w : World) (h : Blk w sb 65 (scs lim dp vo a e er)) :
    Calls Tryd.prog 42 #[.pointer (some ⟨sb, 0, none⟩), .int .i64 er'] w fun e w' => e = .returned (.tuple #[]) ∧ Done w' sb er' ∧ Chg w w' (fun k => k = sb) := by
  have c0 := h.cell 0
  have c1 := h.cell 1
  have c2 := h.cell 2
  have c5 := h.cell 5
  have f1 := h.frozen 1
  have f2 := h.frozen 2
  have f5 := h.frozen 5
  simp only [scs, List.getElem?_cons_succ, List.getElem?_cons_zero] at c0 c1 c2 c5
  have H := Lib.hid h
  clear h
  go_enter Tryd.func42, Tryd.ntmps42
  go_wp2_with fail
  go_end0
  have hB := ((H.out.set_ 2 (.slice none 0 0)).set_ 1 (.pointer none)).set_ 5 (.int .i64 er')
  have e1 : (((scs lim dp vo a e er).set 2 (.slice none 0 0)).set 1 (.pointer none)).set 5 (.int .i64 er') = scs lim (.pointer none) (.slice none 0 0) a e er' := rfl
  rw [e1] at hB
  have hC : Chg w (((w.setCell ⟨sb, 2, none⟩ (.slice none 0 0)).setCell ⟨sb, 1, none⟩ (.pointer none)).setCell ⟨sb, 5, none⟩ (.int .i64 er')) (fun k => k = sb) :=
    (((Chg.refl w (fun k => k = sb)).setCell (p := ⟨sb, 2, none⟩) _ rfl).setCell (p := ⟨sb, 1, none⟩) _ rfl).setCell (p := ⟨sb, 5, none⟩) _ rfl
  exact ⟨rfl, ⟨lim, a, e, hB⟩, hC⟩
theorem pending_nil (w : World) : Calls Tryd.prog 14 #[.pointer none] w fun e w' => e = .returned (.int .i64 0) ∧ w = w' := by
  go_enter Tryd.func14, Tryd.ntmps14
  go_wp2
  go_ret
  exact ⟨rfl, rfl⟩
theorem pending_at (sb n c : Nat) (A : Option Addr) (w : World) (h : w.cell? ⟨sb, 2, none⟩ = some (.slice A n c)) : Calls Tryd.prog 14 #[.pointer (some ⟨sb, 0, none⟩)] w fun e w' => e = .returned (.int .i64 n) ∧ w = w' := by
  go_enter Tryd.func14, Tryd.ntmps14
  go_wp2
  go_ret
  exact ⟨rfl, rfl⟩
theorem pending_any (base sb db a e : Nat) (lim : Int) (dc : List Value) (vo : Value) (O : List Pt) (w : World) (h : Sm w base sb db lim dc vo O a e) :
    Calls Tryd.prog 14 #[.pointer (some ⟨sb, 0, none⟩)] w fun e w' => e = .returned (.int .i64 (flen O)) ∧ w = w' := by
  obtain ⟨A, c, rfl, _⟩ := own_form h.own
  exact pending_at sb _ c A w (h.blk.cell 2)
theorem pending_done (sb : Nat) (er : Int) (w : World) (h : Done w sb er) : Calls Tryd.prog 14 #[.pointer (some ⟨sb, 0, none⟩)] w fun e w' => e = .returned (.int .i64 0) ∧ w = w' := by
  obtain ⟨lim, a, e, h⟩ := h
  exact pending_at sb 0 0 none w (h.cell 2)
theorem err_nil (w : World) : Calls Tryd.prog 15 #[.pointer none] w fun e w' => e = .returned (.int .i64 1) ∧ w = w' := by
  go_enter Tryd.func15, Tryd.ntmps15
  go_wp2
  go_ret
  exact ⟨rfl, rfl⟩
theorem err_six (sb : Nat) (w : World) (h : w.cell? ⟨sb, 5, none⟩ = some (.int .i64 6)) : Calls Tryd.prog 15 #[.pointer (some ⟨sb, 0, none⟩)] w fun e w' => e = .returned (.int .i64 6) ∧ w = w' := by
  go_enter Tryd.func15, Tryd.ntmps15
  go_wp2
  go_ret
  exact ⟨rfl, rfl⟩
theorem err_eight (sb : Nat) (w : World) (h : w.cell? ⟨sb, 5, none⟩ = some (.int .i64 8)) : Calls Tryd.prog 15 #[.pointer (some ⟨sb, 0, none⟩)] w fun e w' => e = .returned (.int .i64 0) ∧ w = w' := by
  go_enter Tryd.func15, Tryd.ntmps15
  go_wp2
  go_ret
  exact ⟨rfl, rfl⟩
theorem err_none (sb : Nat) (w : World) (h : w.cell? ⟨sb, 5, none⟩ = some (.int .i64 0)) : Calls Tryd.prog 15 #[.pointer (some ⟨sb, 0, none⟩)] w fun e w' => e = .returned (.int .i64 0) ∧ w = w' := by
  go_enter Tryd.func15, Tryd.ntmps15
  go_wp2
  go_ret
  exact ⟨rfl, rfl⟩
end Go.Proofs.YtbljomfofgocaaaDoor.Seg
