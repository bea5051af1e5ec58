/-
  CONTRACT OF THE DECODER's Write.
-/
import Derived.Test.YtipcbiecdabihaaGreatUtfDec
import Derived.Laws.CopyOwn
import Derived.Deep.RegionWith
import Derived.Deep.RegionLaw
namespace Go.Proofs.YtipcbiecdabihaaGreat.Utf
open Go.RowKit
set_option maxRecDepth 100000

theorem grown_trans {a b c : World} {r : Option Nat} (h : a.grownBy b r) (k : b.grownBy c r) : a.grownBy c r :=
  ⟨k.os.trans h.os, k.tape.trans h.tape, k.output.trans h.output, Nat.le_trans h.size k.size, fun i hi hne => (k.block i (Nat.lt_of_lt_of_le hi h.size) hne).trans (h.block i hi hne)⟩

/-- copy into a block that is known whole, as one step of a region that draws: the exact frame. -/
theorem step_copy_blk {P : Program} {ops : Array Oper} {o : Oper} {a : Act} {w : World} {K : Act → World → Prop} {Q : Exit → Act → World → Prop} {E : Prop} (hgd : o.guard = none) (d s : Operand) (dT sT : TypeId)
    (ho : o.op = .call { callee := .builtin .copy, args := #[d, s], argTypes := #[dT, sT] }) (elem : TypeId) (hu : P.underlying dT = some (.slice elem)) (hsz : (P.info? elem).map (·.size) = some 1)
    (dp sp : Option Addr) (dLen dCap sLen sCap : Nat) (hd : a.eval d = .slice dp dLen dCap) (hs : a.eval s = .slice sp sLen sCap)
    (g : Nat) (cur : List Value) (t : TypeId) (hg : Blk w g t cur) (cs : List Value) (hn : cs.length = Nat.min sLen dLen)
    (hdp : dp = some ⟨g, 0, none⟩) (B : Nat) (hr : Rd w B sp cs) (hfit : cs.length ≤ cur.length) (h1 : ∀ v ∈ cs, v.oneCell' = true)
    (h : ∀ w', Blk w' g t (cs ++ cur.drop cs.length) → w.grownBy w' (some g) → K (a.put o.dst (goInt cs.length)) w') :
    if Region.wanted o (yielded ops a.tmps) = true then Oper.wp P o a w K Q else E := by
  have hw : Region.wanted o (yielded ops a.tmps) = true := by simp [Region.wanted, hgd]
  rw [if_pos hw]
  by_cases h0 : cs.length = 0
  · obtain rfl : cs = [] := List.eq_nil_of_length_eq_zero h0
    have hrun := run_copy_none (P := P) w dT sT o.type elem dp sp dLen dCap sLen sCap hu hsz (by simpa using hn.symm)
    unfold Oper.wp
    simp [execOp, ho, resolve, invoke, builtin, hd, hs, hrun, Result.andThen]
    exact h w (by simpa using hg) (World.grownBy.refl w _)
  · subst hdp
    obtain ⟨b', o', rfl, _, hc⟩ := hr (by rintro rfl; simp at h0)
    have hsrc : ∀ j v, cs[j]? = some v → w.cell? ((⟨b', o', none⟩ : Addr).add j) = some v := fun j v hv => by
      have hadd : (⟨b', o', none⟩ : Addr).add j = ⟨b', o' + j, none⟩ := by unfold Addr.add; split <;> simp_all
      rw [hadd]; exact hc j v hv
    have hrun := run_copy_row (P := P) w dT sT o.type elem g 0 dLen dCap ⟨b', o', none⟩ sLen sCap cur.toArray t cs hu hsz hg hn hsrc (by simpa using hfit) h1
    unfold Oper.wp
    simp [execOp, ho, resolve, invoke, builtin, hd, hs, hrun, Result.andThen]
    refine h _ ?_ ⟨rfl, rfl, rfl, by simp, fun k _ hk => setRow_other w g k _ (fun e => hk (by rw [e]))⟩
    have := setRow_heap w g cur.toArray (cs ++ cur.drop cs.length).toArray t _ hg
    unfold Blk
    simpa using this

/-- what the decoder keeps: the first n of its three bytes -/
def kept (k0 k1 k2 : UInt8) (n : Nat) : List UInt8 := [k0, k1, k2].take n
theorem splice_dcs (r : List UInt8) (k0 k1 k2 : UInt8) (n q : Nat) (b : Bool) (h : r.length ≤ 3) :
    ∃ r0 r1 r2, bys r ++ (dcs k0 k1 k2 n q b).drop (bys r).length = dcs r0 r1 r2 n q b ∧ kept r0 r1 r2 r.length = r := by
  match r, h with
  | [], _ => exact ⟨k0, k1, k2, rfl, rfl⟩
  | [x], _ => exact ⟨x, k1, k2, rfl, rfl⟩
  | [x, y], _ => exact ⟨x, y, k2, rfl, rfl⟩
  | [x, y, z], _ => exact ⟨x, y, z, rfl, rfl⟩
def Wrote (w : World) (g q : Nat) (l : List UInt8) (e : Ending) (w' : World) : Prop :=
  ∃ v k0 k1 k2, e = .returned v ∧ w'.ownsRow w.heap.size 58 3 v (dec true q l).length (pts (dec true q l)) ∧ Dc w' g k0 k1 k2 (l.length - eat l) (q + eat l) false ∧ kept k0 k1 k2 (l.length - eat l) = l.drop (eat l) ∧ w.grownBy w' (some g)

set_option maxHeartbeats 2000000 in
theorem write_closed (g n q m c : Nat) (k0 k1 k2 : UInt8) (A : Option Addr) (w : World) (h : Dc w g k0 k1 k2 n q true) : Calls Tryz.prog 84 #[.pointer (some ⟨g, 0, none⟩), .slice A m c] w fun e w' => e = .returned (.slice none 0 0) ∧ w = w' := by
  have h5 := h.c5
  go_enter Tryz.func84, Tryz.ntmps84
  go_wp2
  go_ret
  exact ⟨rfl, rfl⟩
theorem write_nil (m c : Nat) (A : Option Addr) (w : World) : Calls Tryz.prog 84 #[.pointer none, .slice A m c] w fun e w' => e = .returned (.slice none 0 0) ∧ w = w' := by
  go_enter Tryz.func84, Tryz.ntmps84
  go_wp2
  go_ret
  exact ⟨rfl, rfl⟩

theorem copy_size : (Tryz.prog.info? 5).map (·.size) = some 1 := by kernel_rfl

set_option maxHeartbeats 4000000 in
theorem write_zero (g q m c : Nat) (k0 k1 k2 : UInt8) (A : Option Addr) (l : List UInt8) (w : World) (h : Dc w g k0 k1 k2 0 q false) (hr : Rd w w.heap.size A (bys l)) (hm : l.length = m) (hc : m ≤ c) (hcm : c ≤ 9223372036854775807) (hb : m ≤ 1099511627776) (hq : q ≤ 1099511627776) :
    Calls Tryz.prog 84 #[.pointer (some ⟨g, 0, none⟩), .slice A m c] w (Wrote w g q l) := by
  have hrd := read_any A l c q w hr (by omega) hcm (by omega) hq
  rw [hm] at hrd
  have HREAD := Lib.hid hrd
  have hel := eat_le l
  have hes := rest_short l
  rw [hm] at hel hes
  have HM := Lib.hid hm
  have HR := Lib.hid hr
  have h5 := h.c5
  have h3 : w.cell? ⟨g, 3, none⟩ = some (.int .i64 0) := h.c3
  have h4 := h.c4
  have H := Lib.hid h
  have hgl : g < w.heap.size := Blk.lt h
  clear hrd hm h hr
  obtain ⟨E, hE⟩ : ∃ E, E = eat l := ⟨_, rfl⟩
  have HE := Lib.hid hE
  have HREAD2 : Hid (Calls Tryz.prog 98 #[.slice A m c, .int .i64 q] w (Sure w q l)) := HREAD
  rw [← hE] at hel hes
  clear hE HREAD
  go_enter Tryz.func84, Tryz.ntmps84
  go_wp2_with fail
  refine HREAD2.out.mono ?_
  rintro e w2 ⟨v, rfl, hown, hbel⟩
  rw [← HE.out]
  have hD2 : Blk w2 g 107 (dcs k0 k1 k2 0 q false) := (H.out : Blk _ _ _ _).below hbel hgl
  have d4 : w2.cell? ⟨g, 4, none⟩ = some (.int .i64 q) := hD2.cell 4
  have f4 := hD2.frozen 4
  have HD2 := Lib.hid hD2
  clear hD2 h3 h4 h5
  go_wp2_with fail
  have hDu : Blk (w2.setCell ⟨g, 4, none⟩ (.int .i64 ((q : Int) + (E : Int)))) g 107 (dcs k0 k1 k2 0 (q + E) false) := HD2.out.set_ 4 _
  have hGu : w.grownBy (w2.setCell ⟨g, 4, none⟩ (.int .i64 ((q : Int) + (E : Int)))) (some g) := grown_set (grown_below (World.grownBy.refl w _) hbel) 4 _
  have hRu : Rd (w2.setCell ⟨g, 4, none⟩ (.int .i64 ((q : Int) + (E : Int)))) w.heap.size A (bys l) := by
    have h2 := HR.out.below hbel
    intro hn
    obtain ⟨b, o, e, hbb, hc⟩ := h2 hn
    refine ⟨b, o, e, hbb, fun j x hx => ?_⟩
    rw [World.cell?_setCell_other]
    · exact hc j x hx
    · intro he
      have h4 := hc j x hx
      rw [← he, d4] at h4
      simp only [bys, List.getElem?_map, Option.map_eq_some_iff] at hx
      obtain ⟨y, _, rfl⟩ := hx
      simp at h4
  generalize hu : w2.setCell ⟨g, 4, none⟩ (.int .i64 ((q : Int) + (E : Int))) = u at hDu hGu hRu ⊢
  have HU := Lib.hid hu
  have HDU := Lib.hid hDu
  clear hu hDu d4 f4
  by_cases hEm : E < m
  · obtain ⟨b, o, rfl, hbb⟩ := hRu.form (by rw [bys_len, HM.out]; omega)
    have hRd : Rd u w.heap.size (some ⟨b, o + E, none⟩) (bys (l.drop E)) := by have := hRu.drop_ E; rwa [bys_drop] at this
    have hlen : (bys (l.drop E)).length = Nat.min (m - E) 3 := by rw [bys_len, List.length_drop, HM.out]; show _ = min _ _; omega
    have hle3 : (bys (l.drop E)).length ≤ (dcs k0 k1 k2 0 (q + E) false).length := by rw [hlen]; show min _ _ ≤ 6; omega
    have hr3 : (l.drop E).length ≤ 3 := by rw [List.length_drop, HM.out]; omega
    obtain ⟨r0, r1, r2, hsp, hkp⟩ := splice_dcs (l.drop E) k0 k1 k2 0 (q + E) false hr3
    have hrl : (bys (l.drop E)).length = m - E := by rw [bys_len, List.length_drop, HM.out]
    have HSP := Lib.hid hsp; have HKP := Lib.hid hkp; have HRL := Lib.hid hrl
    clear hsp hkp hr3 hrl
    have HL := Lib.hid hlen; have HL3 := Lib.hid hle3; have HRD := Lib.hid hRd
    clear hlen hle3 hRd hRu
    have hcE : E < c := by omega
    go_region_law (refine step_copy_blk rfl (.tmp 52) (.tmp 55) 46 46 rfl 5 Tryz.underlying46 copy_size (some ⟨g, 0, none⟩) (some ⟨b, o + E, none⟩) 3 3 (m - E) (c - E) (by simp [Act.eval, Act.put]) (by simp [Act.eval, Act.put]; omega) g (dcs k0 k1 k2 0 (q + E) false) 107 HDU.out (bys (l.drop E)) HL.out rfl w.heap.size HRD.out HL3.out (bys_one _) ?_; intro w4 hb4 hg4; rw [HSP.out] at hb4; rw [HRL.out]; have f3 := hb4.frozen 3; have c3 : w4.cell? ⟨g, 3, none⟩ = some (.int .i64 ((0 : Nat) : Int)) := hb4.cell 3; have HB4 := Lib.hid hb4; clear hb4)
    go_wp2
    go_ret
    have hgx : w2.grownBy w4 (some g) := grown_trans (by rw [← HU.out]; exact grown_drew (grown_set (World.grownBy.refl w2 _) 4 _)) hg4
    have hgf : w2.grownBy (w4.setCell ⟨g, 3, none⟩ (.int .i64 ((m - E : Nat) : Int))) (some g) := grown_set hgx 3 _
    refine ⟨v, r0, r1, r2, rfl, hown.kept hgf (.inr (own_ne hown HD2.out (by decide))), ?_, ?_, grown_trans (grown_below (World.grownBy.refl w _) hbel) hgf⟩
    · rw [← HE.out, HM.out]; exact HB4.out.set_ 3 _
    · rw [← HE.out, HM.out]; have := HKP.out; rwa [List.length_drop, HM.out] at this
  · have hEm' : E = m := by omega
    have hnil : l.drop E = [] := List.drop_eq_nil_of_le (by have := HM.out; omega)
    have HNIL := Lib.hid hnil
    have hmE : m - E = 0 := by omega
    have HME := Lib.hid hmE
    clear hnil hmE hEm
    subst hEm'
    clear hRu
    have hwr : ∀ w4 : World, Blk w4 g 107 (dcs k0 k1 k2 0 (q + E) false) → u.drew.grownBy w4 (some g) → Wrote w g q l (.returned v) (w4.setCell ⟨g, 3, none⟩ (.int .i64 0)) := by
      intro w4 hb4 hg4
      have hgx : w2.grownBy w4 (some g) := grown_trans (by rw [← HU.out]; exact grown_drew (grown_set (World.grownBy.refl w2 _) 4 _)) hg4
      have hgf : w2.grownBy (w4.setCell ⟨g, 3, none⟩ (.int .i64 0)) (some g) := grown_set hgx 3 _
      refine ⟨v, k0, k1, k2, rfl, hown.kept hgf (.inr (own_ne hown HD2.out (by decide))), ?_, ?_, grown_trans (grown_below (World.grownBy.refl w _) hbel) hgf⟩
      · rw [← HE.out, HM.out, HME.out]; exact hb4.set_ 3 _
      · rw [← HE.out, HM.out, HME.out, HNIL.out]; rfl
    have HWR := Lib.hid hwr
    clear hwr
    cases A with
    | none =>
      by_cases hcE : c = E
      · subst hcE
        go_region_law (refine step_copy_blk rfl (.tmp 52) (.tmp 55) 46 46 rfl 5 Tryz.underlying46 copy_size (some ⟨g, 0, none⟩) none 3 3 0 0 (by simp [Act.eval, Act.put]) (by simp [Act.eval, Act.put]) g (dcs k0 k1 k2 0 (q + c) false) 107 HDU.out [] rfl rfl w.heap.size (Rd.empty _ _ _) (Nat.zero_le _) (fun _ h => nomatch h) ?_; intro w4 hb4 hg4; have hb5 : Blk w4 g 107 (dcs k0 k1 k2 0 (q + c) false) := hb4; have f3 := hb5.frozen 3; have c3 : w4.cell? ⟨g, 3, none⟩ = some (.int .i64 ((0 : Nat) : Int)) := hb5.cell 3; have HB4 := Lib.hid hb5; clear hb4 hb5)
        go_wp2
        go_ret
        exact HWR.out _ HB4.out hg4
      · go_region_law (refine step_copy_blk rfl (.tmp 52) (.tmp 55) 46 46 rfl 5 Tryz.underlying46 copy_size (some ⟨g, 0, none⟩) none 3 3 0 (c - E) (by simp [Act.eval, Act.put]) (by simp [Act.eval, Act.put]) g (dcs k0 k1 k2 0 (q + E) false) 107 HDU.out [] rfl rfl w.heap.size (Rd.empty _ _ _) (Nat.zero_le _) (fun _ h => nomatch h) ?_; intro w4 hb4 hg4; have hb5 : Blk w4 g 107 (dcs k0 k1 k2 0 (q + E) false) := hb4; have f3 := hb5.frozen 3; have c3 : w4.cell? ⟨g, 3, none⟩ = some (.int .i64 ((0 : Nat) : Int)) := hb5.cell 3; have HB4 := Lib.hid hb5; clear hb4 hb5)
        go_wp2
        go_ret
        exact HWR.out _ HB4.out hg4
    | some ad =>
      by_cases hcE : c = E
      · subst hcE
        go_region_law (refine step_copy_blk rfl (.tmp 52) (.tmp 55) 46 46 rfl 5 Tryz.underlying46 copy_size (some ⟨g, 0, none⟩) (some ad) 3 3 0 0 (by simp [Act.eval, Act.put]) (by simp [Act.eval, Act.put]) g (dcs k0 k1 k2 0 (q + c) false) 107 HDU.out [] rfl rfl w.heap.size (Rd.empty _ _ _) (Nat.zero_le _) (fun _ h => nomatch h) ?_; intro w4 hb4 hg4; have hb5 : Blk w4 g 107 (dcs k0 k1 k2 0 (q + c) false) := hb4; have f3 := hb5.frozen 3; have c3 : w4.cell? ⟨g, 3, none⟩ = some (.int .i64 ((0 : Nat) : Int)) := hb5.cell 3; have HB4 := Lib.hid hb5; clear hb4 hb5)
        go_wp2
        go_ret
        exact HWR.out _ HB4.out hg4
      · go_region_law (refine step_copy_blk rfl (.tmp 52) (.tmp 55) 46 46 rfl 5 Tryz.underlying46 copy_size (some ⟨g, 0, none⟩) (some (ad.add E)) 3 3 0 (c - E) (by simp [Act.eval, Act.put]) (by simp [Act.eval, Act.put]) g (dcs k0 k1 k2 0 (q + E) false) 107 HDU.out [] rfl rfl w.heap.size (Rd.empty _ _ _) (Nat.zero_le _) (fun _ h => nomatch h) ?_; intro w4 hb4 hg4; have hb5 : Blk w4 g 107 (dcs k0 k1 k2 0 (q + E) false) := hb4; have f3 := hb5.frozen 3; have c3 : w4.cell? ⟨g, 3, none⟩ = some (.int .i64 ((0 : Nat) : Int)) := hb5.cell 3; have HB4 := Lib.hid hb5; clear hb4 hb5)
        go_wp2
        go_ret
        exact HWR.out _ HB4.out hg4
end Go.Proofs.YtipcbiecdabihaaGreat.Utf
