/-
  Texts of stage 7, part 35.
-/
import Derived.Test.YtheelnhhkpkjnaaGreatDoorG1
import Derived.Test.YtheelnhhkpkjnaaGreatDoorG8
import Derived.Test.YtheelnhhkpkjnaaGreatDoorG10
import Derived.Test.YtheelnhhkpkjnaaGreatDoorG24
import Derived.Test.YtheelnhhkpkjnaaGreatDoorG26
import Derived.Test.YtheelnhhkpkjnaaGreatDoorG30
namespace Go.Proofs.YtheelnhhkpkjnaaGreatDoor.Syn
open Go.RowKit
open Sset (Tx)
open Rset (Rg Nm compl gp_compl gp_len norm_id nl_nm)
open Ucd (nmF nmGo rangesF)
open Norm (textF)
open Utf (vld enc)
set_option maxRecDepth 100000
def okR (r : Rg) : Bool := decide (0 ≤ r.1) && decide (r.1 ≤ r.2) && decide (r.2 ≤ 1114111)
def nmB : List Rg → Bool
 | [] => true
 | [r] => okR r
 | r :: s :: t => okR r && decide (r.2 + 2 ≤ s.1) && nmB (s :: t)
theorem okR_iff {r : Rg} (h : okR r = true) : 0 ≤ r.1 ∧ r.1 ≤ r.2 ∧ r.2 ≤ 1114111 := by
 unfold okR at h
 simp only [Bool.and_eq_true, decide_eq_true_eq] at h
 exact ⟨h.1.1, h.1.2, h.2⟩
theorem nmB_nm : ∀ l : List Rg, nmB l = true → Nm l
 | [], _ => Nm.nil
 | [r], h => Nm.cons (okR_iff h) (by simp) Nm.nil
 | r :: s :: t, h => by
  unfold nmB at h
  simp only [Bool.and_eq_true, decide_eq_true_eq] at h
  have ih := nmB_nm (s :: t) h.2
  refine Nm.cons (okR_iff h.1.1) (fun x hx => ?_) ih
  rcases List.mem_cons.1 hx with rfl | hx
  ·exact h.1.2
  ·have := ih.next x hx; have := ih.hd; omega
noncomputable def theE : Env where
 cat b t := if (nmF t).2 then some (if b then compl (rangesF (nmF t).1) else rangesF (nmF t).1) else none
 chr n := if vld (n : Int) then some (textF (enc [(n : Int)])) else none
theorem nm_seven (t : Tx) (h : (nmF t).2 = true) : (nmF t).1 ∈ ([1, 2, 3, 4, 5, 6, 7] : List Int) := by
 unfold nmF nmGo at *
 simp only [nmGo] at *
 repeat' split at h
 all_goals simp_all
theorem ranges_nm : (([1, 2, 3, 4, 5, 6, 7] : List Int).all fun c => nmB (rangesF c) && decide ((rangesF c).length ≤ 90)) = true := by decide +kernel
theorem ranges_ok (t : Tx) (h : (nmF t).2 = true) : Nm (rangesF (nmF t).1) ∧ (rangesF (nmF t).1).length ≤ 90 := by
 have := List.all_eq_true.1 ranges_nm _ (nm_seven t h)
 simp only [Bool.and_eq_true, decide_eq_true_eq] at this
 exact ⟨nmB_nm _ this.1, this.2⟩
theorem chr_len (n : Int) : (textF (enc [n])).length ≤ 1000 := by
 have h1 := Utf.enc_le [n]
 have h2 := Norm.runes_len (enc [n])
 have h3 := Norm.nf_len (Norm.fulls (Norm.runesF (enc [n])))
 have h4 := Norm.fulls_len (Norm.runesF (enc [n]))
 have h5 := Utf.enc_le (Norm.normal (Norm.runesF (enc [n])))
 have h6 : (Norm.normal (Norm.runesF (enc [n]))).length = (Norm.fulls (Norm.runesF (enc [n]))).length := h3
 unfold textF
 simp at h1
 omega
theorem goodE : GoodEnv theE where
 cat b c x h := by
  unfold theE at h
  dsimp only at h
  split at h
  ·rename_i hc
   obtain ⟨h1, h2⟩ := ranges_ok c hc
   injection h with h
   subst h
   split
   ·refine ⟨?_, nl_nm _⟩
    have := gp_len (rangesF (nmF c).1) 0
    rw [← gp_compl, norm_id h1]; omega
   ·exact ⟨by omega, h1⟩
  ·cases h
 chr n x h := by
  unfold theE at h
  dsimp only at h
  split at h
  ·injection h with h
   rw [← h]; have := chr_len n; omega
  ·cases h
theorem cR_rgs (l : List (Int × Int)) : Ucd.cR l = Rset.rgs l := rfl
end Go.Proofs.YtheelnhhkpkjnaaGreatDoor.Syn
namespace Go.Proofs.YtheelnhhkpkjnaaGreatDoor.Syn
open Utf Norm Seg
open Ucd hiding same
set_option maxRecDepth 100000
def tx (l : List UInt8) : List (List UInt8) := (texts l).map fun t => t.data.toList
theorem tx_cuts (l : List UInt8) : tx l = (cuts opn (runesF l)).map fun g => enc (normal g) := by
 rw [tx, texts_cuts, List.map_map]; rfl
theorem tx_normal (l : List UInt8) : tx l = (cuts opn (normal (runesF l))).map enc := by
 rw [tx, texts_of_normal, List.map_map]; rfl
def Opens (l : List UInt8) : Prop := ∀ r t, runesF l = r :: t → opn r = true
theorem sign_opn (c : UInt8) (h : [c] ∈ signs) : opn (c.toNat : Int) = true ∧ normal [(c.toNat : Int)] = [(c.toNat : Int)] ∧ c.toNat < 128 := by
 have : (signs.all fun t => match t with
   | [c] => opn (c.toNat : Int) && decide (normal [(c.toNat : Int)] = [(c.toNat : Int)]) && decide (c.toNat < 128)
   | _ => false) = true := by decide +kernel
 have h2 := List.all_eq_true.1 this _ h
 simp only [Bool.and_eq_true, decide_eq_true_eq] at h2
 exact ⟨h2.1.1, h2.1.2, h2.2⟩
theorem runes_ascii (c : UInt8) (hc : c.toNat < 128) (l : List UInt8) : runesF (l ++ [c]) = runesF l ++ [(c.toNat : Int)] := by
 rw [runesF, dec_ascii c hc l, List.map_append]; rfl
theorem runes_one (c : UInt8) (hc : c.toNat < 128) : runesF [c] = [(c.toNat : Int)] := by
 have := runes_ascii c hc []
 rw [List.nil_append] at this
 rw [this]; rfl
theorem enc_ascii (c : UInt8) (hc : c.toNat < 128) : enc [(c.toNat : Int)] = [c] := by
 have hv : vld (c.toNat : Int) = true := (vld_iff _).2 (by omega)
 show encN (fix (c.toNat : Int)) ++ [] = [c]
 have hf : fix (c.toNat : Int) = c.toNat := by have := fix_vld hv; omega
 rw [hf, List.append_nil]
 unfold encN
 rw [if_pos hc]
 simp
theorem tx_lead (c : UInt8) (h : [c] ∈ signs) {m : List UInt8} (hm : Opens m) : tx (c :: m) = [c] :: tx m := by
 obtain ⟨h1, h2, h3⟩ := sign_opn c h
 have hr : runesF (c :: m) = (c.toNat : Int) :: runesF m := by
  have := runes_join [] m c h3
  rw [List.nil_append, runes_one c h3] at this
  exact this
 have hc1 : cuts opn [(c.toNat : Int)] = [[(c.toNat : Int)]] := cuts_one opn _ [] (fun x hx => by simp at hx)
 have he : enc (normal [(c.toNat : Int)]) = [c] := by rw [h2]; exact enc_ascii c h3
 rw [tx_cuts, tx_cuts, hr]
 cases hx : runesF m with
 | nil =>
  rw [hc1, cuts_nil]
  show [enc (normal [(c.toNat : Int)])] = [[c]]
  rw [he]
 | cons r t =>
  have := cuts_open opn (a := [(c.toNat : Int)]) (by simp) (hm r t hx) t
  rw [List.singleton_append] at this
  rw [this, hc1, List.map_append]
  show [enc (normal [(c.toNat : Int)])] ++ _ = _
  rw [he]; rfl
theorem tx_join (c : UInt8) (h : [c] ∈ signs) (a : List UInt8) {m : List UInt8} (hm : Opens m) : tx (a ++ c :: m) = tx a ++ [c] :: tx m := by
 obtain ⟨h1, h2, h3⟩ := sign_opn c h
 have hr : runesF (a ++ c :: m) = runesF a ++ (c.toNat : Int) :: runesF m := by
  have := runes_join a m c h3
  rw [runes_ascii c h3 a, List.append_assoc, List.append_assoc] at this
  exact this
 have hl := tx_lead c h hm
 have hr2 : runesF (c :: m) = (c.toNat : Int) :: runesF m := by
  have := runes_join [] m c h3
  rw [List.nil_append, runes_one c h3] at this
  exact this
 rw [← hl, tx_cuts, tx_cuts, tx_cuts, hr, hr2]
 by_cases ha : runesF a = []
 ·rw [ha, cuts_nil]; rfl
 ·rw [cuts_open opn ha h1, List.map_append]
theorem opens_sign (c : UInt8) (h : [c] ∈ signs) (m : List UInt8) : Opens (c :: m) := by
 obtain ⟨h1, h2, h3⟩ := sign_opn c h
 intro r t e
 have := runes_join [] m c h3
 rw [List.nil_append, runes_one c h3] at this
 have e2 : runesF (c :: m) = (c.toNat : Int) :: runesF m := this
 rw [e2] at e
 injection e with e1 _
 rw [← e1]; exact h1
theorem opens_nil : Opens [] := fun r t e => by cases e
theorem opens_app {a : List UInt8} (h : Opens a) (c : UInt8) (hc : [c] ∈ signs) (m : List UInt8) : Opens (a ++ c :: m) := by
 obtain ⟨h1, h2, h3⟩ := sign_opn c hc
 intro r t e
 have hr := runes_join a m c h3
 rw [runes_ascii c h3 a, List.append_assoc, List.append_assoc] at hr
 have hr : runesF (a ++ c :: m) = runesF a ++ (c.toNat : Int) :: runesF m := hr
 rw [hr] at e
 cases ha : runesF a with
 | nil => rw [ha] at e; injection e with e1 _; rw [← e1]; exact h1
 | cons x u => rw [ha] at e; injection e with e1 _; rw [← e1]; exact h x u ha
theorem tx_group {a : List UInt8} (h : Opens a) : tx (40 :: (a ++ [41])) = [40] :: (tx a ++ [[41]]) := by
 rw [tx_lead 40 (by decide) (opens_app h 41 (by decide) []), tx_join 41 (by decide) a opens_nil]
 rfl
theorem tx_bar {a b : List UInt8} (h : Opens a) (k : Opens b) : tx (40 :: (a ++ 41 :: 124 :: 40 :: (b ++ [41]))) = [40] :: (tx a ++ [41] :: [124] :: [40] :: (tx b ++ [[41]])) := by
 rw [tx_lead 40 (by decide) (opens_app h 41 (by decide) _), tx_join 41 (by decide) a (opens_sign 124 (by decide) _), tx_lead 124 (by decide) (opens_sign 40 (by decide) _), tx_group k]
theorem tx_both {a b : List UInt8} (h : Opens a) (k : Opens b) : tx (40 :: (a ++ 41 :: 40 :: (b ++ [41]))) = [40] :: (tx a ++ [41] :: [40] :: (tx b ++ [[41]])) := by
 rw [tx_lead 40 (by decide) (opens_app h 41 (by decide) _), tx_join 41 (by decide) a (opens_sign 40 (by decide) _), tx_group k]
theorem tx_clings {a : List UInt8} (h : (tx (40 :: a)).head? = some [40]) : Opens a := by
 obtain ⟨h1, h2, h3⟩ := sign_opn 40 (by decide)
 intro r t e
 cases ho : opn r with
 | true => rfl
 | false =>
  exfalso
  have hr : runesF (40 :: a) = (40 : Int) :: runesF a := by
   have := runes_join [] a 40 h3
   rw [List.nil_append, runes_one 40 h3] at this
   exact this
  rw [tx_cuts, hr, e] at h
  -- the first group holds both
  obtain ⟨g, gs, hg⟩ : ∃ g gs, cuts opn ((40 : Int) :: r :: t) = g :: gs := by
   cases hc : cuts opn ((40 : Int) :: r :: t) with
   | nil => have := cuts_flat opn ((40 : Int) :: r :: t); rw [hc] at this; cases this
   | cons g gs => exact ⟨g, gs, rfl⟩
  have hgood := cuts_good opn ((40 : Int) :: r :: t)
  have hflat := cuts_flat opn ((40 : Int) :: r :: t)
  rw [hg] at h hgood hflat
  obtain ⟨q, u, rfl, hu⟩ := hgood.1 g (by simp)
  rw [List.map_cons, List.head?_cons, Option.some.injEq] at h
  rw [List.flatten_cons, List.cons_append] at hflat
  injection hflat with e1 e2
  have hu2 : u ≠ [] := by
   rintro rfl
   cases gs with
   | nil => cases e2
   | cons g2 gs =>
    obtain ⟨q2, u2, rfl, ho2, _⟩ := hgood.2 g2 (by simp)
    rw [List.nil_append, List.flatten_cons, List.cons_append] at e2
    injection e2 with e3 _
    rw [e3] at ho2
    rw [ho] at ho2; cases ho2
  have hl : (runesF (enc (normal (q :: u)))).length = (normal (q :: u)).length := runes_enc_len _
  rw [h] at hl
  have h1l : (runesF [40]).length = 1 := by rw [runes_one 40 h3]; rfl
  rw [h1l, normal_len, fulls_cons, List.length_append] at hl
  have f1 := full_some q
  cases u with
  | nil => exact hu2 rfl
  | cons x u =>
   have f2 := full_some x
   rw [fulls_cons, List.length_append] at hl
   omega
def quoteB (L : List (List UInt8)) : List UInt8 := (quoted L).flatten
def rlen (t : List UInt8) : Nat := (runesF t).length
theorem says_len (g : List Pt) : rlen (says g).data.toList = flen g := by
 show (runesF (enc (normal (runs g)))).length = _
 rw [runes_enc_len, normal_len]; rfl
theorem tx_grp (l : List UInt8) : tx l = (grp (dec false 0 l)).map fun g => (says g).data.toList := by
 unfold tx texts; rw [List.map_map]; rfl
theorem bad_tx (lim : Nat) (l : List UInt8) : badG flen lim (grp (dec false 0 l)) = (tx l).any fun t => decide (lim < rlen t) := by
 rw [tx_grp, List.any_map]
 unfold badG
 congr 1
 funext g
 show _ = decide (lim < rlen (says g).data.toList)
 rw [says_len]
theorem ok_tx (lim : Nat) (l : List UInt8) : (okG flen lim (grp (dec false 0 l))).map (fun g => (says g).data.toList) = (tx l).takeWhile fun t => decide (rlen t ≤ lim) := by
 rw [tx_grp, List.takeWhile_map]
 unfold okG
 congr 2
 funext g
 show _ = decide (rlen (says g).data.toList ≤ lim)
 rw [says_len]
noncomputable def parseT (E : Env) (L : List (List UInt8)) : Except (Nat × Nat) (List Nd) :=
 if (L.any fun t => decide (64 < rlen t)) = true then .error ((L.takeWhile fun t => decide (rlen t ≤ 64)).length, 6)
 else if 4096 < L.length then .error (0, 3) else pattern E L
noncomputable def parseF (E : Env) (b : List UInt8) : Except (Nat × Nat) (List Nd) := parseT E (tx b)
theorem groups_le {α : Type} : ∀ gs : List (List α), (∀ g ∈ gs, g ≠ []) → gs.length ≤ gs.flatten.length
 | [], _ => Nat.le_refl _
 | g :: gs, h => by
  have := groups_le gs fun x hx => h x (by simp [hx])
  have hg : 0 < g.length := List.length_pos_iff.2 (h g (by simp))
  rw [List.flatten_cons, List.length_append, List.length_cons]; omega
theorem tx_len (b : List UInt8) : (tx b).length ≤ b.length := by
 rw [tx_cuts, List.length_map]
 have h := groups_le (cuts opn (runesF b)) fun g hg => by obtain ⟨q, t, rfl⟩ := cuts_group opn hg; simp
 rw [cuts_flat] at h
 have h2 := dec_len_le false b 0
 have : (runesF b).length = (dec false 0 b).length := by unfold runesF; rw [List.length_map]
 omega
theorem sign_rlen (c : UInt8) (h : [c] ∈ signs) : decide (64 < rlen [c]) = false := by
 have : rlen [c] = 1 := by unfold rlen; rw [runes_one c (sign_opn c h).2.2]; rfl
 rw [this]; decide
theorem parse_ok {E : Env} {L : List (List UInt8)} {l : List Nd} (h : parseT E L = .ok l) : (L.any fun t => decide (64 < rlen t)) = false ∧ L.length ≤ 4096 ∧ pattern E L = .ok l := by
 unfold parseT at h
 split at h
 ·cases h
 ·split at h
  ·cases h
  ·rename_i h1 h2
   exact ⟨by simpa using h1, by omega, h⟩
theorem parse_mk {E : Env} {L : List (List UInt8)} (h : (L.any fun t => decide (64 < rlen t)) = false) (h2 : L.length ≤ 4096) : parseT E L = pattern E L := by
 unfold parseT
 rw [h, if_neg Bool.false_ne_true, if_neg (by omega)]
theorem parse_group (E : Env) {a : List UInt8} {l : List Nd} (h : parseF E a = .ok l) (ho : Opens a) (hl : a.length ≤ 3000) : Steps (parseF E (40 :: (a ++ [41]))) l := by
 obtain ⟨h1, h2, h3⟩ := parse_ok h
 unfold parseF
 rw [tx_group ho, parse_mk]
 ·exact pattern_group E h3
 ·rw [List.any_cons, List.any_append, h1, sign_rlen 40 (by decide), List.any_cons, sign_rlen 41 (by decide)]; rfl
 ·have := tx_len a; simp; omega
theorem parse_bar (E : Env) {a b : List UInt8} {l m : List Nd} (h : parseF E a = .ok l) (k : parseF E b = .ok m) (ho : Opens a) (ko : Opens b) (hl : a.length + b.length ≤ 3000) :
  Steps (parseF E (40 :: (a ++ 41 :: 124 :: 40 :: (b ++ [41])))) (l ++ m ++ [nd 6]) := by
 obtain ⟨h1, h2, h3⟩ := parse_ok h
 obtain ⟨k1, k2, k3⟩ := parse_ok k
 unfold parseF
 rw [tx_bar ho ko, parse_mk]
 ·exact pattern_bar E h3 k3
 ·simp only [List.any_cons, List.any_append, List.any_nil]
  rw [h1, k1, sign_rlen 40 (by decide), sign_rlen 41 (by decide), sign_rlen 124 (by decide)]; rfl
 ·have := tx_len a; have := tx_len b; simp; omega
theorem parse_both (E : Env) {a b : List UInt8} {l m : List Nd} (h : parseF E a = .ok l) (k : parseF E b = .ok m) (ho : Opens a) (ko : Opens b) (hl : a.length + b.length ≤ 3000) :
  Steps (parseF E (40 :: (a ++ 41 :: 40 :: (b ++ [41])))) (l ++ m ++ [nd 5]) := by
 obtain ⟨h1, h2, h3⟩ := parse_ok h
 obtain ⟨k1, k2, k3⟩ := parse_ok k
 unfold parseF
 rw [tx_both ho ko, parse_mk]
 ·exact pattern_both E h3 k3
 ·simp only [List.any_cons, List.any_append, List.any_nil]
  rw [h1, k1, sign_rlen 40 (by decide), sign_rlen 41 (by decide)]; rfl
 ·have := tx_len a; have := tx_len b; simp; omega
theorem parse_place (E : Env) (b : List UInt8) {n c : Nat} (h : parseF E b = .error (n, c)) :
  (((tx b).any fun t => decide (64 < rlen t)) = true ∧ c = 6 ∧ n = ((tx b).takeWhile fun t => decide (rlen t ≤ 64)).length) ∨
  (((tx b).any fun t => decide (64 < rlen t)) = false ∧ ((c = 3 ∧ n = 0 ∧ 4096 < (tx b).length) ∨ (n ≤ (tx b).length ∧ (c = 2 ∨ c = 4 ∧ ∃ hn : n < (tx b).length, (tx b)[n] = [40])))) := by
 unfold parseF parseT at h
 split at h
 ·rename_i h1
  injection h with h
  injection h with h2 h3
  exact .inl ⟨h1, h3.symm, h2.symm⟩
 ·rename_i h1
  right
  refine ⟨by simpa using h1, ?_⟩
  split at h
  ·rename_i h2
   injection h with h
   injection h with h3 h4
   exact .inl ⟨h4.symm, h3.symm, h2⟩
  ·exact .inr (pattern_bad E _ h)
end Go.Proofs.YtheelnhhkpkjnaaGreatDoor.Syn
