/-
  Texts of stage 7, part 37.
-/
import Derived.Test.YtheelnhhkpkjnaaGreatDoorQ1
import Derived.Test.YtheelnhhkpkjnaaGreatDoorQ8
import Derived.Test.YtheelnhhkpkjnaaGreatDoorQ11
import Derived.Test.YtheelnhhkpkjnaaGreatDoorQ26
import Derived.Test.YtheelnhhkpkjnaaGreatDoorQ28
import Derived.Test.YtheelnhhkpkjnaaGreatDoorQ32
namespace Go.Proofs.YtheelnhhkpkjnaaGreatDoor.Syn
open Go.RowKit
open Sset (Tx)
open Rset (Rg Nm compl gp_compl gp_len norm_id nl_nm)
open Ucd (nmF nmGo rangesF)
open Norm (textF)
open Utf (vld enc)
set_option maxRecDepth 100000
def okR (r : Rg) : Bool := decide (0 ≤ r.1) && decide (r.1 ≤ r.2) && decide (r.2 ≤ 1114111)
def nmB : List Rg → Bool
 | [] => true
 | [r] => okR r
 | r :: s :: t => okR r && decide (r.2 + 2 ≤ s.1) && nmB (s :: t)
theorem okR_iff {r : Rg} (h : okR r = true) : 0 ≤ r.1 ∧ r.1 ≤ r.2 ∧ r.2 ≤ 1114111 := by
 unfold okR at h
 simp only [Bool.and_eq_true, decide_eq_true_eq] at h
 exact ⟨h.1.1, h.1.2, h.2⟩
theorem nmB_nm : ∀ l : List Rg, nmB l = true → Nm l
 | [], _ => Nm.nil
 | [r], h => Nm.cons (okR_iff h) (by simp) Nm.nil
 | r :: s :: t, h => by
  unfold nmB at h
  simp only [Bool.and_eq_true, decide_eq_true_eq] at h
  have ih := nmB_nm (s :: t) h.2
  refine Nm.cons (okR_iff h.1.1) (fun x hx => ?_) ih
  rcases List.mem_cons.1 hx with rfl | hx
  ·exact h.1.2
  ·have := ih.next x hx; have := ih.hd; omega
noncomputable def theE : Env where
 cat b t := if (nmF t).2 then some (if b then compl (rangesF (nmF t).1) else rangesF (nmF t).1) else none
 chr n := if vld (n : Int) then some (textF (enc [(n : Int)])) else none
theorem nm_seven (t : Tx) (h : (nmF t).2 = true) : (nmF t).1 ∈ ([1, 2, 3, 4, 5, 6, 7] : List Int) := by
 unfold nmF nmGo at *
 simp only [nmGo] at *
 repeat' split at h
 all_goals simp_all
theorem ranges_nm : (([1, 2, 3, 4, 5, 6, 7] : List Int).all fun c => nmB (rangesF c) && decide ((rangesF c).length ≤ 90)) = true := by decide +kernel
theorem ranges_ok (t : Tx) (h : (nmF t).2 = true) : Nm (rangesF (nmF t).1) ∧ (rangesF (nmF t).1).length ≤ 90 := by
 have := List.all_eq_true.1 ranges_nm _ (nm_seven t h)
 simp only [Bool.and_eq_true, decide_eq_true_eq] at this
 exact ⟨nmB_nm _ this.1, this.2⟩
theorem chr_len (n : Int) : (textF (enc [n])).length ≤ 1000 := by
 have h1 := Utf.enc_le [n]
 have h2 := Norm.runes_len (enc [n])
 have h3 := Norm.nf_len (Norm.fulls (Norm.runesF (enc [n])))
 have h4 := Norm.fulls_len (Norm.runesF (enc [n]))
 have h5 := Utf.enc_le (Norm.normal (Norm.runesF (enc [n])))
 have h6 : (Norm.normal (Norm.runesF (enc [n]))).length = (Norm.fulls (Norm.runesF (enc [n]))).length := h3
 unfold textF
 simp at h1
 omega
theorem goodE : GoodEnv theE where
 cat b c x h := by
  unfold theE at h
  dsimp only at h
  split at h
  ·rename_i hc
   obtain ⟨h1, h2⟩ := ranges_ok c hc
   injection h with h
   subst h
   split
   ·refine ⟨?_, nl_nm _⟩
    have := gp_len (rangesF (nmF c).1) 0
    rw [← gp_compl, norm_id h1]; omega
   ·exact ⟨by omega, h1⟩
  ·cases h
 chr n x h := by
  unfold theE at h
  dsimp only at h
  split at h
  ·injection h with h
   rw [← h]; have := chr_len n; omega
  ·cases h
theorem cR_rgs (l : List (Int × Int)) : Ucd.cR l = Rset.rgs l := rfl
end Go.Proofs.YtheelnhhkpkjnaaGreatDoor.Syn
namespace Go.Proofs.YtheelnhhkpkjnaaGreatDoor.Syn
open Utf Norm Seg
open Ucd hiding same
set_option maxRecDepth 100000
def tx (l : List UInt8) : List (List UInt8) := (texts l).map fun t => t.data.toList
theorem tx_cuts (l : List UInt8) : tx l = (cuts opn (runesF l)).map fun g => enc (normal g) := by
 rw [tx, texts_cuts, List.map_map]; rfl
theorem tx_normal (l : List UInt8) : tx l = (cuts opn (normal (runesF l))).map enc := by
 rw [tx, texts_of_normal, List.map_map]; rfl
theorem sign_opn (c : UInt8) (h : [c] ∈ signs) : opn (c.toNat : Int) = true ∧ normal [(c.toNat : Int)] = [(c.toNat : Int)] ∧ c.toNat < 128 := by
 have : (signs.all fun t => match t with
   | [c] => opn (c.toNat : Int) && decide (normal [(c.toNat : Int)] = [(c.toNat : Int)]) && decide (c.toNat < 128)
   | _ => false) = true := by decide +kernel
 have h2 := List.all_eq_true.1 this _ h
 simp only [Bool.and_eq_true, decide_eq_true_eq] at h2
 exact ⟨h2.1.1, h2.1.2, h2.2⟩
theorem runes_ascii (c : UInt8) (hc : c.toNat < 128) (l : List UInt8) : runesF (l ++ [c]) = runesF l ++ [(c.toNat : Int)] := by
 rw [runesF, dec_ascii c hc l, List.map_append]; rfl
theorem runes_one (c : UInt8) (hc : c.toNat < 128) : runesF [c] = [(c.toNat : Int)] := by
 have := runes_ascii c hc []
 rw [List.nil_append] at this
 rw [this]; rfl
theorem enc_ascii (c : UInt8) (hc : c.toNat < 128) : enc [(c.toNat : Int)] = [c] := by
 have hv : vld (c.toNat : Int) = true := (vld_iff _).2 (by omega)
 show encN (fix (c.toNat : Int)) ++ [] = [c]
 have hf : fix (c.toNat : Int) = c.toNat := by have := fix_vld hv; omega
 rw [hf, List.append_nil]
 unfold encN
 rw [if_pos hc]
 simp
def quoteB (L : List (List UInt8)) : List UInt8 := (quoted L).flatten
theorem mem_sgn {t : List UInt8} (h : sgn t = true) : ∃ c : UInt8, t = [c] ∧ [c] ∈ signs := by
 unfold sgn at h
 rw [decide_eq_true_eq] at h
 have : (signs.all fun t => decide (t.length = 1)) = true := by decide +kernel
 obtain ⟨c, rfl⟩ := List.length_eq_one_iff.1 (of_decide_eq_true (List.all_eq_true.1 this _ h))
 exact ⟨c, rfl, h⟩
theorem tx_quote (b : List UInt8) : tx (quoteB (tx b)) = quoted (tx b) := by
 obtain ⟨gs, hgs⟩ : ∃ gs, gs = cuts opn (normal (runesF b)) := ⟨_, rfl⟩
 have hgood : Seg.Good opn gs := by rw [hgs]; exact cuts_good opn _
 have hnorm : ∀ g ∈ gs, normal g = g := by
  rw [hgs, cuts_normal]
  intro g hg
  obtain ⟨x, _, rfl⟩ := List.mem_map.1 hg
  exact normal_normal x
 have hv : ∀ g ∈ gs, ∀ x ∈ g, vld x = true := by
  intro g hg x hx
  refine normal_vld (runes_vld b) x ?_
  have := cuts_flat opn (normal (runesF b))
  rw [← this, ← hgs]
  exact List.mem_flatten.2 ⟨g, hg, hx⟩
 have htx : tx b = gs.map enc := by rw [tx_normal, hgs]
 obtain ⟨s1, s2, s3⟩ := sign_opn 92 (by decide)
 have s4 := enc_ascii 92 s3
 rw [htx]
 -- the groups of what is quoted
 obtain ⟨G, hG⟩ : ∃ G : List (List Int), G = gs.flatMap fun g => if sgn (enc g) then [[92], g] else [g] := ⟨_, rfl⟩
 have hq : quoted (gs.map enc) = G.map enc := by
  rw [hG]
  unfold quoted
  rw [List.flatMap_map, List.map_flatMap]
  congr 1
  funext g
  show (if sgn (enc g) = true then [[92], enc g] else [enc g]) = _
  split
  ·show _ = [enc [92], enc g]; rw [show enc [92] = [92] from s4]
  ·rfl
 have hGv : ∀ x ∈ G.flatten, vld x = true := by
  intro x hx
  obtain ⟨g, hg, hx⟩ := List.mem_flatten.1 hx
  rw [hG] at hg
  obtain ⟨g0, h0, hg⟩ := List.mem_flatMap.1 hg
  have h92 : vld 92 = true := (vld_iff _).2 (by omega)
  split at hg
  ·rcases List.mem_cons.1 hg with rfl | hg
   ·rw [List.mem_singleton.1 hx]; exact h92
   ·rw [List.mem_singleton.1 hg] at hx; exact hv g0 h0 x hx
  ·rw [List.mem_singleton.1 hg] at hx; exact hv g0 h0 x hx
 have hGn : ∀ g ∈ G, normal g = g := by
  intro g hg
  rw [hG] at hg
  obtain ⟨g0, h0, hg⟩ := List.mem_flatMap.1 hg
  split at hg
  ·rcases List.mem_cons.1 hg with rfl | hg
   ·exact s2
   ·rw [List.mem_singleton.1 hg]; exact hnorm g0 h0
  ·rw [List.mem_singleton.1 hg]; exact hnorm g0 h0
 -- a sign's group opens
 have hso : ∀ g ∈ gs, sgn (enc g) = true → Seg.Opn opn g := by
  intro g hg h
  obtain ⟨c, hc, hm⟩ := mem_sgn h
  obtain ⟨o1, _, o3⟩ := sign_opn c hm
  have hr := runes_enc (hv g hg)
  rw [hc, runes_one c o3] at hr
  exact ⟨(c.toNat : Int), [], hr.symm, o1, fun x hx => by simp at hx⟩
 have hGgood : Seg.Good opn G := by
  rw [hG]
  clear hG hq hGv hGn htx hgs
  have key : ∀ gs : List (List Int), (∀ g ∈ gs, Seg.One opn g) → (∀ g ∈ gs, sgn (enc g) = true → Seg.Opn opn g) → (∀ g ∈ gs, Seg.Opn opn g) → ∀ g ∈ (gs.flatMap fun g => if sgn (enc g) then [[92], g] else [g]), Seg.Opn opn g := by
   intro gs _ _ h3 g hg
   obtain ⟨g0, h0, hg⟩ := List.mem_flatMap.1 hg
   split at hg
   ·rcases List.mem_cons.1 hg with rfl | hg
    ·exact ⟨92, [], rfl, s1, fun x hx => by simp at hx⟩
    ·rw [List.mem_singleton.1 hg]; exact h3 g0 h0
   ·rw [List.mem_singleton.1 hg]; exact h3 g0 h0
  cases gs with
  | nil => exact ⟨fun g hg => by simp at hg, fun g hg => by simp at hg⟩
  | cons g gs =>
   have ht : ∀ x ∈ gs, Seg.Opn opn x := fun x hx => hgood.2 x hx
   have hk := key gs (fun x hx => (ht x hx).one) (fun x hx _ => ht x hx) ht
   rw [List.flatMap_cons]
   by_cases hs : sgn (enc g) = true
   ·rw [if_pos hs]
    have hgo := hso g (by simp) hs
    have h92 : Seg.Opn opn [92] := ⟨92, [], rfl, s1, fun x hx => by simp at hx⟩
    refine ⟨fun x hx => ?_, fun x hx => ?_⟩
    ·rcases List.mem_append.1 hx with hx | hx
     ·rcases List.mem_cons.1 hx with rfl | hx
      ·exact h92.one
      ·rw [List.mem_singleton.1 hx]; exact hgo.one
     ·exact (hk x hx).one
    ·have hx : x ∈ [g] ++ _ := hx
     rcases List.mem_append.1 hx with hx | hx
     ·rw [List.mem_singleton.1 hx]; exact hgo
     ·exact hk x hx
   ·rw [if_neg hs]
    refine ⟨fun x hx => ?_, fun x hx => ?_⟩
    ·rcases List.mem_append.1 hx with hx | hx
     ·rw [List.mem_singleton.1 hx]; exact hgood.1 g (by simp)
     ·exact (hk x hx).one
    ·exact hk x hx
 rw [hq]
 have hb : quoteB (gs.map enc) = enc G.flatten := by
  unfold quoteB
  rw [hq, ← enc_flat]
 rw [hb, tx_cuts, runes_enc hGv, good_cuts opn G hGgood]
 exact List.map_congr_left fun g hg => by rw [hGn g hg]
def rlen (t : List UInt8) : Nat := (runesF t).length
theorem says_len (g : List Pt) : rlen (says g).data.toList = flen g := by
 show (runesF (enc (normal (runs g)))).length = _
 rw [runes_enc_len, normal_len]; rfl
theorem tx_grp (l : List UInt8) : tx l = (grp (dec false 0 l)).map fun g => (says g).data.toList := by
 unfold tx texts; rw [List.map_map]; rfl
theorem bad_tx (lim : Nat) (l : List UInt8) : badG flen lim (grp (dec false 0 l)) = (tx l).any fun t => decide (lim < rlen t) := by
 rw [tx_grp, List.any_map]
 unfold badG
 congr 1
 funext g
 show _ = decide (lim < rlen (says g).data.toList)
 rw [says_len]
theorem ok_tx (lim : Nat) (l : List UInt8) : (okG flen lim (grp (dec false 0 l))).map (fun g => (says g).data.toList) = (tx l).takeWhile fun t => decide (rlen t ≤ lim) := by
 rw [tx_grp, List.takeWhile_map]
 unfold okG
 congr 2
 funext g
 show _ = decide (rlen (says g).data.toList ≤ lim)
 rw [says_len]
theorem any_quoted (p : List UInt8 → Bool) (hp : p [92] = false) : ∀ L : List (List UInt8), (quoted L).any p = L.any p
 | [] => rfl
 | t :: L => by
  rw [quoted_cons, List.any_append, List.any_cons, any_quoted p hp L]
  split <;> simp [hp]
theorem quoted_count : ∀ L : List (List UInt8), (quoted L).length ≤ 2 * L.length
 | [] => Nat.le_refl _
 | t :: L => by
  have := quoted_count L
  rw [quoted_cons, List.length_append, List.length_cons]
  split <;> simp <;> omega
theorem bad_quote (lim : Nat) (h : 1 ≤ lim) (b : List UInt8) : ((tx (quoteB (tx b))).any fun t => decide (lim < rlen t)) = (tx b).any fun t => decide (lim < rlen t) := by
 rw [tx_quote]
 refine any_quoted _ ?_ _
 have : rlen [92] = 1 := by unfold rlen; rw [runes_one 92 (by decide)]; rfl
 rw [this, decide_eq_false_iff_not]; omega
noncomputable def parseT (E : Env) (L : List (List UInt8)) : Except (Nat × Nat) (List Nd) :=
 if (L.any fun t => decide (64 < rlen t)) = true then .error ((L.takeWhile fun t => decide (rlen t ≤ 64)).length, 6)
 else if 4096 < L.length then .error (0, 3) else pattern E L
noncomputable def parseF (E : Env) (b : List UInt8) : Except (Nat × Nat) (List Nd) := parseT E (tx b)
theorem groups_le {α : Type} : ∀ gs : List (List α), (∀ g ∈ gs, g ≠ []) → gs.length ≤ gs.flatten.length
 | [], _ => Nat.le_refl _
 | g :: gs, h => by
  have := groups_le gs fun x hx => h x (by simp [hx])
  have hg : 0 < g.length := List.length_pos_iff.2 (h g (by simp))
  rw [List.flatten_cons, List.length_append, List.length_cons]; omega
theorem tx_len (b : List UInt8) : (tx b).length ≤ b.length := by
 rw [tx_cuts, List.length_map]
 have h := groups_le (cuts opn (runesF b)) fun g hg => by obtain ⟨q, t, rfl⟩ := cuts_group opn hg; simp
 rw [cuts_flat] at h
 have h2 := dec_len_le false b 0
 have : (runesF b).length = (dec false 0 b).length := by unfold runesF; rw [List.length_map]
 omega
theorem parse_ok {E : Env} {L : List (List UInt8)} {l : List Nd} (h : parseT E L = .ok l) : (L.any fun t => decide (64 < rlen t)) = false ∧ L.length ≤ 4096 ∧ pattern E L = .ok l := by
 unfold parseT at h
 split at h
 ·cases h
 ·split at h
  ·cases h
  ·rename_i h1 h2
   exact ⟨by simpa using h1, by omega, h⟩
theorem parse_mk {E : Env} {L : List (List UInt8)} (h : (L.any fun t => decide (64 < rlen t)) = false) (h2 : L.length ≤ 4096) : parseT E L = pattern E L := by
 unfold parseT
 rw [h, if_neg Bool.false_ne_true, if_neg (by omega)]
theorem parse_quote (E : Env) (b : List UInt8) (h1 : ((tx b).any fun t => decide (64 < rlen t)) = false) (h2 : (tx b).length ≤ 2000) : parseF E (quoteB (tx b)) = .ok (setRow (tx b)) := by
 unfold parseF
 have hb := bad_quote 64 (by omega) b
 rw [h1] at hb
 rw [parse_mk hb, tx_quote]
 ·exact pattern_quoted E _
 ·rw [tx_quote]; have := quoted_count (tx b); omega
theorem parse_quote_bad (E : Env) (b : List UInt8) (h1 : ((tx b).any fun t => decide (64 < rlen t)) = true) : ∃ n, parseF E (quoteB (tx b)) = .error (n, 6) := by
 unfold parseF parseT
 rw [bad_quote 64 (by omega) b, h1, if_pos rfl]
 exact ⟨_, rfl⟩
theorem parse_place (E : Env) (b : List UInt8) {n c : Nat} (h : parseF E b = .error (n, c)) :
  (((tx b).any fun t => decide (64 < rlen t)) = true ∧ c = 6 ∧ n = ((tx b).takeWhile fun t => decide (rlen t ≤ 64)).length) ∨
  (((tx b).any fun t => decide (64 < rlen t)) = false ∧ ((c = 3 ∧ n = 0 ∧ 4096 < (tx b).length) ∨ (n ≤ (tx b).length ∧ (c = 2 ∨ c = 4 ∧ ∃ hn : n < (tx b).length, (tx b)[n] = [40])))) := by
 unfold parseF parseT at h
 split at h
 ·rename_i h1
  injection h with h
  injection h with h2 h3
  exact .inl ⟨h1, h3.symm, h2.symm⟩
 ·rename_i h1
  right
  refine ⟨by simpa using h1, ?_⟩
  split at h
  ·rename_i h2
   injection h with h
   injection h with h3 h4
   exact .inl ⟨h4.symm, h3.symm, h2⟩
  ·exact .inr (pattern_bad E _ h)
end Go.Proofs.YtheelnhhkpkjnaaGreatDoor.Syn
