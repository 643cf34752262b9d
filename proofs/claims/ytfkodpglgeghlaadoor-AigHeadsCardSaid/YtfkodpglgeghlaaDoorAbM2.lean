/- Plain facts: a right circuit's text is read as it was, whatever line that begins with c stands behind; what stands behind or ahead of it otherwise is amiss there. Nothing of the program. · Plain facts: a circuit's text cut by two bytes or more is not read as that circuit: the words that tell it have as many bytes as its numerals. Nothing of the program. · Appends of any number of elements of any size, to a row of the call's own, as steps (as in the sixth stage's Brow). No conditions beyond those typed. · The contract of skolemmake.Circuit: a right circuit in memory of the call's own. Conditions: the slices read as 64-bit ints and are short; at most 50 inputs. · The contract of skolemmake.Circuit: a right circuit in memory of the call's own. Conditions: the slices read as 64-bit ints and are short; at most 50 inputs. -/
import Derived.Test.YtfkodpglgeghlaaDoorAgP
import Derived.Test.YtfkodpglgeghlaaDoorTxt
import Derived.Test.YtfkodpglgeghlaaDoorOwn
import Derived.Maps.AppendAt
import Derived.Test.YtfkodpglgeghlaaDoorPrA
import Derived.Test.YtfkodpglgeghlaaDoorSmall
import Derived.Deep.RegionHeld3
import Derived.Laws.ResultCell
import Derived.WalkLawsBesides
namespace Go.Proofs.YtfkodpglgeghlaaDoor

/-- A word at a line's begin or behind a blank, and what is behind it. -/
theorem sp_tok {t : List Int} (ht : Tok t) (k : Nat) (f : Bool) (g : Int) (R : List Int) (hg : gapB g = true) : splitL false k f false (t ++ g :: R) = (t, k, f) :: splitL false (k + t.length) false false (g :: R) := by
  obtain ⟨h1, h2, _⟩ := ht
  cases t with
  | nil => exact absurd rfl h1
  | cons x t =>
    have hx : gapB x = false := h2 x (by simp)
    have hin : ∀ i, i < t.length → inW ((t ++ g :: R).getD i 0) = true := fun i hi => by
      have := h2 (t.getD i 0) (by simp [List.getD, hi])
      unfold inW
      rw [show (t ++ g :: R).getD i 0 = t.getD i 0 by simp [List.getD, List.getElem?_append_left hi], this]; rfl
    obtain ⟨w1, w2⟩ := while_at inW (t ++ g :: R) t.length (by simp) hin (.inr (by simp [List.getD, inW, hg]))
    rw [List.cons_append, splitL_word false k f false x _ hx, w1, w2]
    simp [Nat.add_comm]
theorem sp_bl (k : Nat) (f : Bool) (R : List Int) : splitL false k f false (32 :: R) = splitL false (k + 1) f false R := splitL_blank false k f false 32 R (by decide)
theorem sp_nl (k : Nat) (f s : Bool) (R : List Int) : splitL false k f s (10 :: R) = splitL false (k + 1) true false R := splitL_nl false k f s R
theorem lineL_1 (a : Int) (R : List Int) : lineL [a] ++ R = itoaL a ++ 10 :: R := by unfold lineL bodyL; simp
theorem lineL_3 (a b c : Int) (R : List Int) : lineL [a, b, c] ++ R = itoaL a ++ 32 :: (itoaL b ++ 32 :: (itoaL c ++ 10 :: R)) := by unfold lineL bodyL; simp
theorem lineL_5 (a b c d e : Int) (R : List Int) : lineL [a, b, c, d, e] ++ R = itoaL a ++ 32 :: (itoaL b ++ 32 :: (itoaL c ++ 32 :: (itoaL d ++ 32 :: (itoaL e ++ 10 :: R)))) := by unfold lineL bodyL; simp
theorem tok_i (a : Int) : Tok (itoaL a) := (tok_itoa a).1
theorem sp_line1 (k : Nat) (a : Int) (R : List Int) : splitL false k true false (lineL [a] ++ R) = (itoaL a, k, true) :: splitL false (k + (lineL [a]).length) true false R := by
  rw [lineL_1, sp_tok (tok_i a) k true 10 R (by decide), sp_nl]
  congr 2
  unfold lineL
  rw [bodyL_one]; simp [Nat.add_assoc]
theorem sp_line3 (k : Nat) (a b c : Int) (R : List Int) : ∃ p q, splitL false k true false (lineL [a, b, c] ++ R) = (itoaL a, k, true) :: (itoaL b, p, false) :: (itoaL c, q, false) :: splitL false (k + (lineL [a, b, c]).length) true false R := by
  rw [lineL_3, sp_tok (tok_i a) k true 32 _ (by decide), sp_bl, sp_tok (tok_i b) _ false 32 _ (by decide), sp_bl, sp_tok (tok_i c) _ false 10 _ (by decide), sp_nl]
  have h := congrArg List.length (lineL_3 a b c [])
  simp at h
  have hX : k + (itoaL a).length + 1 + (itoaL b).length + 1 + (itoaL c).length + 1 = k + (lineL [a, b, c]).length := by omega
  rw [hX]
  exact ⟨_, _, rfl⟩
theorem sp_head (k : Nat) (a b c d e : Int) (R : List Int) (t : List Int) (ht : Tok t) : ∃ p1 p2 p3 p4 p5, splitL false k true false (t ++ 32 :: (lineL [a, b, c, d, e] ++ R)) = (t, k, true) :: (itoaL a, p1, false) :: (itoaL b, p2, false) :: (itoaL c, p3, false) :: (itoaL d, p4, false) :: (itoaL e, p5, false) :: splitL false (k + (t ++ 32 :: lineL [a, b, c, d, e]).length) true false R := by
  rw [lineL_5, sp_tok ht k true 32 _ (by decide), sp_bl, sp_tok (tok_i a) _ false 32 _ (by decide), sp_bl, sp_tok (tok_i b) _ false 32 _ (by decide), sp_bl, sp_tok (tok_i c) _ false 32 _ (by decide), sp_bl, sp_tok (tok_i d) _ false 32 _ (by decide), sp_bl, sp_tok (tok_i e) _ false 10 _ (by decide), sp_nl]
  have h := congrArg List.length (lineL_5 a b c d e [])
  simp at h
  have hX : k + t.length + 1 + (itoaL a).length + 1 + (itoaL b).length + 1 + (itoaL c).length + 1 + (itoaL d).length + 1 + (itoaL e).length + 1 = k + (t ++ 32 :: lineL [a, b, c, d, e]).length := by
    rw [List.length_append, List.length_cons]; omega
  rw [hX]
  exact ⟨_, _, _, _, _, rfl⟩
theorem numU_itoa {n : Int} (h0 : 0 ≤ n) (h1 : n < 1000000000) : numU (itoaL n) = some n := by
  unfold numU
  rw [if_neg, numL_itoa n (by omega) h1]
  rw [itoaL_pos (by omega)]
  exact dec_head _ 45 (by decide)
theorem numbR_itoa {first : Bool} {most e n : Int} {p : Nat} {ws : List Wd} (h0 : 0 ≤ n) (h1 : n < 1000000000) (h2 : n ≤ most) : numbR first most e ((itoaL n, p, first) :: ws) = .got (n, (p : Int)) ws :=
  numbR_ok (x := (itoaL n, p, first)) (nextR_ok rfl) (numU_itoa h0 h1) (by omega)

/-- Lines of inputs, from k on. -/
def insF (k : Nat) : Nat → List Int
  | 0 => []
  | r + 1 => lineL [2 * ((k : Int) + 1)] ++ insF (k + 1) r
theorem insF_app (k : Nat) : ∀ r s, insF k (r + s) = insF k r ++ insF (k + r) s
  | 0, s => by simp [insF]
  | r + 1, s => by rw [show r + 1 + s = (r + s) + 1 by omega, insF, insF_app (k + 1) r s, insF, List.append_assoc, show k + 1 + r = k + (r + 1) by omega]
theorem insT_F (i : Nat) : insT i = insF 0 i := by
  induction i with
  | zero => rfl
  | succ i ih => rw [insT_succ, ih, insF_app, Nat.zero_add]; simp [insF]
theorem contI_text (e : Int) (i m o a : Nat) : ∀ (r k p : Nat) (R : List Int), k + r ≤ 1000000 → contI e i m o a r k (splitL false p true false (insF k r ++ R)) = contO e i m a o (splitL false (p + (insF k r).length) true false R) []
  | 0, k, p, R, _ => by simp [insF, contI]
  | r + 1, k, p, R, h => by
    rw [insF, List.append_assoc, sp_line1, contI, justR_ok (numbR_itoa (by omega) (by omega) (Int.le_refl _)) rfl]
    show contI e i m o a r (k + 1) _ = _
    rw [contI_text e i m o a r (k + 1) _ R (by omega), List.length_append, Nat.add_assoc]
theorem contO_text (e : Int) (i m a : Nat) : ∀ (os acc : List Int) (p : Nat) (R : List Int), (∀ x ∈ os, 0 ≤ x ∧ x ≤ 2 * (m : Int) + 1) → m ≤ 1000000 → contO e i m a os.length (splitL false p true false (outsT os ++ R)) acc = contG e i a 0 (splitL false (p + (outsT os).length) true false R) [] (acc ++ os)
  | [], acc, p, R, _, _ => by simp [outsT, contO]
  | x :: os, acc, p, R, h, hm => by
    have hx := h x (by simp)
    have e1 : outsT (x :: os) = lineL [x] ++ outsT os := by simp [outsT]
    rw [e1, List.append_assoc, sp_line1, List.length_cons, contO, numbR_itoa hx.1 (by omega) hx.2]
    show contO e i m a os.length _ (acc ++ [x]) = _
    rw [contO_text e i m a os (acc ++ [x]) _ R (fun y hy => h y (by simp [hy])) hm, List.length_append, Nat.add_assoc, List.append_assoc]
    rfl
theorem contG_text (e : Int) (i : Nat) (os : List Int) : ∀ (ps acc : List (Int × Int)) (k p : Nat) (R : List Int), (∀ j, j < ps.length → 0 ≤ (ps.getD j (0, 0)).2 ∧ (ps.getD j (0, 0)).2 ≤ (ps.getD j (0, 0)).1 ∧ (ps.getD j (0, 0)).1 ≤ 2 * ((i : Int) + k + j + 1) - 1) → i + k + ps.length ≤ 1000000 →
    contG e i ps.length k (splitL false p true false (gatesT i k ps ++ R)) acc os = contT i (acc ++ ps) os (splitL false (p + (gatesT i k ps).length) true false R)
  | [], acc, k, p, R, _, _ => by simp [gatesT, contG]
  | x :: ps, acc, k, p, R, h, hm => by
    have hx := h 0 (by simp)
    simp only [List.getD_cons_zero] at hx
    simp only [List.length_cons] at hm
    obtain ⟨p1, p2, e1⟩ := sp_line3 p (2 * ((i : Int) + (k : Int) + 1)) x.1 x.2 (gatesT i (k + 1) ps ++ R)
    rw [gatesT, List.append_assoc, e1, List.length_cons, contG]
    have hg : gateR ((i : Int) + k + 1) e ((itoaL (2 * ((i : Int) + (k : Int) + 1)), p, true) :: (itoaL x.1, p1, false) :: (itoaL x.2, p2, false) :: splitL false (p + (lineL [2 * ((i : Int) + (k : Int) + 1), x.1, x.2]).length) true false (gatesT i (k + 1) ps ++ R)) = .got (x.1, x.2) (splitL false (p + (lineL [2 * ((i : Int) + (k : Int) + 1), x.1, x.2]).length) true false (gatesT i (k + 1) ps ++ R)) := by
      unfold gateR
      rw [justR_ok (numbR_itoa (by omega) (by omega) (Int.le_refl _)) rfl]
      dsimp only
      rw [numbR_itoa (by omega) (by omega) (by omega)]
      dsimp only
      rw [numbR_itoa (by omega) (by omega) (by omega)]
    rw [hg]
    show contG e i ps.length (k + 1) _ (acc ++ [x]) os = _
    rw [contG_text e i os ps (acc ++ [x]) (k + 1) _ R (fun j hj => by
      have := h (j + 1) (by simpa using hj)
      simp only [List.getD_cons_succ] at this
      omega) (by omega), List.length_append, Nat.add_assoc, List.append_assoc]
    rfl

/-- A right circuit, of few parts. -/
def RightC (i : Nat) (ps : List (Int × Int)) (os : List Int) : Prop :=
  i + ps.length ≤ 8000 ∧ os.length ≤ 8000 ∧ (∀ j, j < ps.length → 0 ≤ (ps.getD j (0, 0)).2 ∧ (ps.getD j (0, 0)).2 ≤ (ps.getD j (0, 0)).1 ∧ (ps.getD j (0, 0)).1 ≤ 2 * ((i : Int) + j + 1) - 1) ∧ ∀ x ∈ os, 0 ≤ x ∧ x ≤ 2 * ((i : Int) + (ps.length : Int)) + 1
theorem tok_aag : Tok [97, 97, 103] := ⟨by simp, by intro x hx; simp at hx; rcases hx with rfl | rfl <;> decide, by simp⟩
theorem readR_text (e : Int) (i : Nat) (ps : List (Int × Int)) (os R : List Int) (h : RightC i ps os) : readR e (wordsL false (textA i ps os ++ R)) = contT i ps os (splitL false (textA i ps os).length true false R) := by
  obtain ⟨h1, h2, h3, h4⟩ := h
  have e0 : textA i ps os ++ R = [97, 97, 103] ++ 32 :: (lineL [(i : Int) + (ps.length : Int), (i : Int), 0, (os.length : Int), (ps.length : Int)] ++ (insF 0 i ++ (outsT os ++ (gatesT i 0 ps ++ R)))) := by
    unfold textA headT
    rw [insT_F]
    simp
  obtain ⟨p1, p2, p3, p4, p5, e1⟩ := sp_head 0 ((i : Int) + (ps.length : Int)) (i : Int) 0 (os.length : Int) (ps.length : Int) (insF 0 i ++ (outsT os ++ (gatesT i 0 ps ++ R))) [97, 97, 103] tok_aag
  have el : (textA i ps os).length = 0 + ([97, 97, 103] ++ 32 :: lineL [(i : Int) + (ps.length : Int), (i : Int), 0, (os.length : Int), (ps.length : Int)]).length + (insF 0 i).length + (outsT os).length + (gatesT i 0 ps).length := by
    unfold textA headT
    rw [insT_F]
    simp
    omega
  unfold wordsL
  rw [e0, e1, el]
  have hh : headR e (([97, 97, 103], 0, true) :: (itoaL ((i : Int) + (ps.length : Int)), p1, false) :: (itoaL (i : Int), p2, false) :: (itoaL 0, p3, false) :: (itoaL (os.length : Int), p4, false) :: (itoaL (ps.length : Int), p5, false) :: splitL false (0 + ([97, 97, 103] ++ 32 :: lineL [(i : Int) + (ps.length : Int), (i : Int), 0, (os.length : Int), (ps.length : Int)]).length) true false (insF 0 i ++ (outsT os ++ (gatesT i 0 ps ++ R)))) =
      .got [((i : Int) + (ps.length : Int), (p1 : Int)), ((i : Int), (p2 : Int)), (0, (p3 : Int)), ((os.length : Int), (p4 : Int)), ((ps.length : Int), (p5 : Int))] (splitL false (0 + ([97, 97, 103] ++ 32 :: lineL [(i : Int) + (ps.length : Int), (i : Int), 0, (os.length : Int), (ps.length : Int)]).length) true false (insF 0 i ++ (outsT os ++ (gatesT i 0 ps ++ R)))) := by
    generalize splitL false _ true false (insF 0 i ++ _) = S
    unfold headR
    rw [nextR_ok (x := ([97, 97, 103], 0, true)) rfl]
    dsimp only
    rw [if_pos rfl]
    rw [fiveR, numbR_itoa (by omega) (by omega) (by unfold maxI; omega)]
    dsimp only
    rw [fiveR, numbR_itoa (by omega) (by omega) (by unfold maxI; omega)]
    dsimp only
    rw [fiveR, numbR_itoa (by omega) (by omega) (by unfold maxI; omega)]
    dsimp only
    rw [fiveR, numbR_itoa (by omega) (by omega) (by unfold maxI; omega)]
    dsimp only
    rw [fiveR, numbR_itoa (by omega) (by omega) (by unfold maxI; omega)]
    dsimp only
    rw [fiveR]
    rfl
  have hck : checkR [((i : Int) + (ps.length : Int), (p1 : Int)), ((i : Int), (p2 : Int)), (0, (p3 : Int)), ((os.length : Int), (p4 : Int)), ((ps.length : Int), (p5 : Int))] = none := by
    unfold checkR
    simp only [hn, hp, List.getD_cons_zero, List.getD_cons_succ]
    rw [if_neg (by omega), if_neg (by omega), if_neg (by omega), if_neg (by omega), if_neg (by omega)]
  unfold readR
  rw [hh]
  dsimp only
  rw [hck]
  dsimp only
  simp only [hn, List.getD_cons_zero, List.getD_cons_succ, Int.toNat_natCast]
  rw [show ((i : Int) + (ps.length : Int)).toNat = i + ps.length by omega]
  rw [contI_text e i _ _ _ i 0 _ _ (by omega), contO_text e i _ _ os [] _ _ (fun x hx => by have := h4 x hx; omega) (by omega), contG_text e i _ ps [] 0 _ _ (fun j hj => by have := h3 j hj; omega) (by omega)]
  rfl
theorem readR_back (e : Int) (i : Nat) (ps : List (Int × Int)) (os : List Int) (h : RightC i ps os) : readR e (wordsL false (textA i ps os)) = (((i : Int), ps, os), none) := by
  have := readR_text e i ps os [] h
  rw [List.append_nil, splitL_nil] at this
  exact this
theorem readR_c (e : Int) (i : Nat) (ps : List (Int × Int)) (os T : List Int) (h : RightC i ps os) : readR e (wordsL false (textA i ps os ++ 99 :: 10 :: T)) = (((i : Int), ps, os), none) := by
  rw [readR_text e i ps os _ h, splitL_word false _ true false 99 _ (by decide)]
  rfl
theorem readR_seven (e : Int) (i : Nat) (ps : List (Int × Int)) (os : List Int) (h : RightC i ps os) : readR e (wordsL false (textA i ps os ++ [55, 10])) = badC (false, ((textA i ps os).length : Int)) := by
  rw [readR_text e i ps os _ h, splitL_word false _ true false 55 _ (by decide)]
  rfl
theorem textA_cons (i : Nat) (ps : List (Int × Int)) (os : List Int) : ∃ T, textA i ps os = 97 :: 97 :: 103 :: 32 :: T := by
  unfold textA headT
  exact ⟨_, rfl⟩
theorem readR_x (e : Int) (i : Nat) (ps : List (Int × Int)) (os : List Int) : readR e (wordsL false (120 :: textA i ps os)) = badC (false, 0) := by
  obtain ⟨T, hT⟩ := textA_cons i ps os
  unfold wordsL
  rw [hT, splitL_word false 0 true false 120 _ (by decide)]
  have e1 : (97 :: 97 :: 103 :: 32 :: T : List Int).takeWhile inW = [97, 97, 103] := by
    simp [show inW 97 = true by decide, show inW 103 = true by decide, show inW 32 = false by decide]
  rw [e1]
  rfl
theorem readR_sp (e : Int) (i : Nat) (ps : List (Int × Int)) (os : List Int) : readR e (wordsL false (32 :: 120 :: 32 :: textA i ps os)) = badC (false, 1) := by
  unfold wordsL
  rw [splitL_blank false 0 true false 32 _ (by decide), splitL_word false 1 true false 120 _ (by decide)]
  have e1 : (32 :: textA i ps os).takeWhile inW = [] := by simp [show inW 32 = false by decide]
  rw [e1]
  rfl
end Go.Proofs.YtfkodpglgeghlaaDoor

namespace Go.Proofs.YtfkodpglgeghlaaDoor

/-- How many bytes are in words. -/
def nb (xs : List Int) : Nat := (xs.filter inW).length
theorem nb_append (xs ys : List Int) : nb (xs ++ ys) = nb xs + nb ys := by unfold nb; rw [List.filter_append, List.length_append]
theorem nb_cons (x : Int) (xs : List Int) : nb (x :: xs) = (if inW x = true then 1 else 0) + nb xs := by
  unfold nb
  rw [List.filter_cons]
  split <;> simp [Nat.add_comm]
theorem nb_take (m : Nat) (xs : List Int) : nb (xs.take m) ≤ nb xs := by
  have := nb_append (xs.take m) (xs.drop m)
  rw [List.take_append_drop] at this
  omega
def wlen : List Wd → Nat
  | [] => 0
  | x :: ws => x.1.length + wlen ws
theorem nb_while (l : List Int) : nb l = (l.takeWhile inW).length + nb (l.dropWhile inW) := by
  induction l with
  | nil => rfl
  | cons x l ih =>
    rw [List.takeWhile_cons, List.dropWhile_cons]
    cases h : inW x with
    | true => rw [nb_cons, h]; simp; omega
    | false => simp
theorem wlen_split : ∀ (n : Nat) (l : List Int), l.length ≤ n → ∀ (k : Nat) (f : Bool), wlen (splitL false k f false l) = nb l
  | n, [], _, k, f => by rw [splitL_nil]; rfl
  | 0, x :: l, hn, _, _ => by simp at hn
  | n + 1, x :: l, hn, k, f => by
    have hl : l.length ≤ n := by simpa using hn
    by_cases h10 : x = 10
    · subst h10
      rw [splitL_nl, wlen_split n l hl, nb_cons]
      simp [show inW 10 = false by decide]
    · cases hbk : blankB x with
      | true =>
        rw [splitL_blank false k f false x l hbk, wlen_split n l hl, nb_cons]
        have : inW x = false := by unfold inW; rw [gap_parts, hbk]; simp
        rw [this]; simp
      | false =>
        have hgap : gapB x = false := by rw [gap_parts, hbk]; simp [nlB, h10]
        have hd := dropWhile_len inW l
        rw [splitL_word false k f false x l hgap]
        have hi : inW x = true := by unfold inW; rw [hgap]; rfl
        simp only [Bool.false_or, Bool.false_and, Bool.false_eq_true, if_false, List.cons_append, List.nil_append]
        rw [wlen, wlen_split n _ (by omega), nb_cons, hi, nb_while l]
        simp; omega
theorem wlen_words (l : List Int) : wlen (wordsL false l) = nb l := wlen_split l.length l (Nat.le_refl _) 0 true
theorem natL_long {xs : List Int} {n : Int} (h : natL xs = some n) : (decL n.toNat).length ≤ xs.length := by
  unfold natL at h
  split at h
  · rename_i h'
    obtain ⟨h1, h2, h3⟩ := h'
    have := digs_bd xs xs.length (Nat.le_refl _) (fun j hj => by
      have := List.all_eq_true.1 h3 (xs.getD j 0) (by simp [List.getD, hj])
      exact this)
    rw [List.take_length] at this
    obtain rfl := Option.some.inj h
    have := dec_len (xs.length - 1) (digs xs).toNat (by
      rw [show xs.length - 1 + 1 = xs.length by omega]
      have h4 := this.2
      have h5 := this.1
      have : ((digs xs).toNat : Int) < ((10 ^ xs.length : Nat) : Int) := by
        rw [Int.toNat_of_nonneg h5, Int.natCast_pow]; exact h4
      exact Int.ofNat_lt.1 this)
    omega
  · cases h
theorem numU_long {xs : List Int} {n : Int} (h : numU xs = some n) : (itoaL n).length ≤ xs.length := by
  have hb := numU_bd h
  unfold numU at h
  split at h
  · cases h
  · rename_i h'
    unfold numL at h
    rw [if_neg h'] at h
    rw [itoaL_pos (by omega)]
    exact natL_long h
theorem numbR_wlen {first : Bool} {most e : Int} {ws ws' : List Wd} {y : Int × Int} (h : numbR first most e ws = .got y ws') : (itoaL y.1).length + wlen ws' ≤ wlen ws := by
  obtain ⟨x, rfl, _, h1, _⟩ := numbR_got h
  have := numU_long h1
  rw [wlen]
  omega
theorem justR_wlen {n e : Int} {ws ws' : List Wd} {u : Unit} (h : justR n e ws = .got u ws') : (itoaL n).length + wlen ws' ≤ wlen ws := by
  obtain ⟨x, rfl, _, h1⟩ := justR_got h
  have := numU_long h1
  rw [wlen]
  omega
theorem gateR_wlen {n e : Int} {ws ws' : List Wd} {g : Int × Int} (h : gateR n e ws = .got g ws') : (itoaL (2 * n)).length + (itoaL g.1).length + (itoaL g.2).length + wlen ws' ≤ wlen ws := by
  unfold gateR at h
  cases h1 : justR (2 * n) e ws with
  | bad p => rw [h1] at h; cases h
  | got u w1 =>
    rw [h1] at h
    dsimp only at h
    cases h2 : numbR false (2 * n - 1) e w1 with
    | bad p => rw [h2] at h; cases h
    | got a w2 =>
      rw [h2] at h
      dsimp only at h
      cases h3 : numbR false a.1 e w2 with
      | bad p => rw [h3] at h; cases h
      | got b w3 =>
        rw [h3] at h
        injection h with h4 h5
        subst h4; subst h5
        have := justR_wlen h1
        have := numbR_wlen h2
        have := numbR_wlen h3
        dsimp only
        omega
theorem nb_itoa (a : Int) : nb (itoaL a) = (itoaL a).length := by
  unfold nb
  rw [List.filter_eq_self.2]
  intro x hx
  unfold inW
  rw [(tok_i a).2.1 x hx]; rfl
theorem nb_line1 (a : Int) : nb (lineL [a]) = (itoaL a).length := by
  have := lineL_1 a []
  rw [List.append_nil] at this
  rw [this, nb_append, nb_itoa]
  rfl
theorem nb_line3 (a b c : Int) : nb (lineL [a, b, c]) = (itoaL a).length + (itoaL b).length + (itoaL c).length := by
  have := lineL_3 a b c []
  rw [List.append_nil] at this
  rw [this]
  simp only [nb_append, nb_cons, nb_itoa, show inW 32 = false by decide, show inW 10 = false by decide]
  simp [nb]; omega
theorem nb_line5 (a b c d e : Int) : nb (lineL [a, b, c, d, e]) = (itoaL a).length + (itoaL b).length + (itoaL c).length + (itoaL d).length + (itoaL e).length := by
  have := lineL_5 a b c d e []
  rw [List.append_nil] at this
  rw [this]
  simp only [nb_append, nb_cons, nb_itoa, show inW 32 = false by decide, show inW 10 = false by decide]
  simp [nb]; omega
theorem contT_got {i : Nat} {ps : List (Int × Int)} {os : List Int} {ws : List Wd} {c : Cr} (h : contT i ps os ws = (c, none)) : c = ((i : Int), ps, os) := by
  unfold contT at h
  split at h
  · unfold badC at h; cases h
  · injection h with h; exact h.symm
theorem contG_wlen {e : Int} {i : Nat} {os : List Int} {c : Cr} : ∀ (r k : Nat) (ws : List Wd) (ps : List (Int × Int)), contG e i r k ws ps os = (c, none) → ∃ qs, c = ((i : Int), ps ++ qs, os) ∧ qs.length = r ∧ nb (gatesT i k qs) ≤ wlen ws
  | 0, k, ws, ps, h => ⟨[], by rw [contT_got h, List.append_nil], rfl, by unfold gatesT; exact Nat.zero_le _⟩
  | r + 1, k, ws, ps, h => by
    unfold contG at h
    cases h1 : gateR ((i : Int) + k + 1) e ws with
    | bad p => rw [h1] at h; unfold badC at h; cases h
    | got g ws' =>
      rw [h1] at h
      obtain ⟨qs, h2, h3, h4⟩ := contG_wlen r (k + 1) ws' (ps ++ [g]) h
      refine ⟨g :: qs, by rw [h2]; simp, by simp [h3], ?_⟩
      have := gateR_wlen h1
      unfold gatesT
      rw [nb_append, nb_line3]
      omega
theorem contO_wlen {e : Int} {i m a : Nat} {c : Cr} : ∀ (r : Nat) (ws : List Wd) (os : List Int), contO e i m a r ws os = (c, none) → ∃ us qs, c = ((i : Int), qs, os ++ us) ∧ us.length = r ∧ qs.length = a ∧ nb (outsT us) + nb (gatesT i 0 qs) ≤ wlen ws
  | 0, ws, os, h => by
    obtain ⟨qs, h2, h3, h4⟩ := contG_wlen a 0 ws [] h
    exact ⟨[], qs, by rw [h2]; simp, rfl, h3, by simpa [outsT, nb] using h4⟩
  | r + 1, ws, os, h => by
    unfold contO at h
    cases h1 : numbR true (2 * (m : Int) + 1) e ws with
    | bad p => rw [h1] at h; unfold badC at h; cases h
    | got y ws' =>
      rw [h1] at h
      obtain ⟨us, qs, h2, h3, h4, h5⟩ := contO_wlen r ws' (os ++ [y.1]) h
      refine ⟨y.1 :: us, qs, by rw [h2]; simp, by simp [h3], h4, ?_⟩
      have := numbR_wlen h1
      have e1 : outsT (y.1 :: us) = lineL [y.1] ++ outsT us := by simp [outsT]
      rw [e1, nb_append, nb_line1]
      omega
theorem contI_wlen {e : Int} {i m o a : Nat} {c : Cr} : ∀ (r k : Nat) (ws : List Wd), contI e i m o a r k ws = (c, none) → ∃ us qs, c = ((i : Int), qs, us) ∧ us.length = o ∧ qs.length = a ∧ nb (insF k r) + nb (outsT us) + nb (gatesT i 0 qs) ≤ wlen ws
  | 0, k, ws, h => by
    obtain ⟨us, qs, h2, h3, h4, h5⟩ := contO_wlen o ws [] h
    exact ⟨us, qs, by rw [h2]; simp, h3, h4, by simpa [insF, nb] using h5⟩
  | r + 1, k, ws, h => by
    unfold contI at h
    cases h1 : justR (2 * ((k : Int) + 1)) e ws with
    | bad p => rw [h1] at h; unfold badC at h; cases h
    | got u ws' =>
      rw [h1] at h
      obtain ⟨us, qs, h2, h3, h4, h5⟩ := contI_wlen r (k + 1) ws' h
      refine ⟨us, qs, h2, h3, h4, ?_⟩
      have := justR_wlen h1
      rw [insF, nb_append, nb_line1]
      omega
def slen : List (Int × Int) → Nat
  | [] => 0
  | y :: ys => (itoaL y.1).length + slen ys
theorem fiveR_wlen {e : Int} : ∀ (k : Nat) (ws : List Wd) (hs : List (Int × Int)) (r : List (Int × Int)) (ws' : List Wd), fiveR e k ws hs = .got r ws' → ∃ ys, r = hs ++ ys ∧ ys.length = k ∧ (∀ y ∈ ys, 0 ≤ y.1) ∧ slen ys + wlen ws' ≤ wlen ws
  | 0, ws, hs, r, ws', h => by
    injection h with h1 h2
    subst h1; subst h2
    exact ⟨[], by simp, rfl, by simp, by simp [slen]⟩
  | k + 1, ws, hs, r, ws', h => by
    unfold fiveR at h
    cases hb : numbR false maxI e ws with
    | bad p => rw [hb] at h; cases h
    | got y w1 =>
      rw [hb] at h
      obtain ⟨ys, h1, h2, h3, h4⟩ := fiveR_wlen k w1 _ r ws' h
      have h5 := numbR_wlen hb
      obtain ⟨_, _, _, _, _, h6, _⟩ := numbR_got hb
      refine ⟨y :: ys, by rw [h1]; simp, by simp [h2], fun z hz => ?_, by rw [slen]; omega⟩
      rcases List.mem_cons.1 hz with rfl | hz
      · exact h6
      · exact h3 z hz
theorem readR_wlen {e : Int} {ws : List Wd} {i : Nat} {ps : List (Int × Int)} {os : List Int} (h : readR e ws = (((i : Int), ps, os), none)) : nb (textA i ps os) ≤ wlen ws := by
  unfold readR at h
  cases hh : headR e ws with
  | bad p => rw [hh] at h; unfold badC at h; cases h
  | got hs w1 =>
    rw [hh] at h
    dsimp only at h
    cases hck : checkR hs with
    | some f => rw [hck] at h; unfold badC at h; cases h
    | none =>
      rw [hck] at h
      dsimp only at h
      obtain ⟨us, qs, h2, h3, h4, h5⟩ := contI_wlen _ 0 w1 h
      injection h2 with h2 h6
      injection h6 with h6 h7
      subst h6; subst h7
      unfold headR at hh
      cases hn0 : nextR true e ws with
      | bad p => rw [hn0] at hh; cases hh
      | got x w0 =>
        rw [hn0] at hh
        dsimp only at hh
        split at hh
        · rename_i hx
          obtain ⟨ys, h8, h9, h10, h11⟩ := fiveR_wlen 5 w0 [] hs w1 hh
          have hw : wlen ws = 3 + wlen w0 := by
            cases ws with
            | nil => rw [nextR_nil] at hn0; cases hn0
            | cons z zs =>
              by_cases hf : z.2.2 = true
              · rw [nextR_ok hf] at hn0
                injection hn0 with e1 e2
                subst e1; subst e2
                rw [wlen, hx]; rfl
              · rw [nextR_bad hf] at hn0; cases hn0
          rw [List.nil_append] at h8
          subst h8
          obtain ⟨y0, y1, y2, y3, y4, rfl⟩ : ∃ y0 y1 y2 y3 y4, hs = [y0, y1, y2, y3, y4] := by
            match hs, h9 with
            | [y0, y1, y2, y3, y4], _ => exact ⟨y0, y1, y2, y3, y4, rfl⟩
          have b0 := h10 y0 (by simp)
          have b1 := h10 y1 (by simp)
          have b3 := h10 y3 (by simp)
          have b4 := h10 y4 (by simp)
          simp only [hn, List.getD_cons_zero, List.getD_cons_succ] at h2 h3 h4 h5
          unfold checkR at hck
          simp only [hn, hp, List.getD_cons_zero, List.getD_cons_succ] at hck
          split at hck
          · cases hck
          split at hck
          · cases hck
          split at hck
          · cases hck
          split at hck
          · cases hck
          split at hck
          · cases hck
          rename_i _ _ _ k4 k5
          have e1 : y1.1 = (i : Int) := by omega
          have e3 : y3.1 = (os.length : Int) := by omega
          have e4 : y4.1 = (ps.length : Int) := by omega
          have e0 : y0.1 = (i : Int) + (ps.length : Int) := by
            have : y0.1 = y1.1 + y4.1 := by
              by_cases hq : y0.1 = y1.1 + y4.1
              · exact hq
              · exact absurd hq k4
            omega
          have e2 : y2.1 = 0 := by
            by_cases hq : y2.1 = 0
            · exact hq
            · exact absurd hq k5
          simp only [slen, e0, e1, e2, e3, e4] at h11
          rw [show y1.1.toNat = i by omega] at h5
          unfold textA headT
          simp only [nb_append]
          rw [insT_F, nb_line5, hw]
          have e5 : nb [97, 97, 103, 32] = 3 := by decide
          omega
        · cases hh

/-- The last byte but one stands in a word. -/
def Ends (xs : List Int) : Prop := ∃ A d, xs = A ++ [d, 10] ∧ inW d = true
theorem Ends.app (xs : List Int) {ys : List Int} (h : Ends ys) : Ends (xs ++ ys) := by
  obtain ⟨A, d, rfl, h⟩ := h
  exact ⟨xs ++ A, d, by simp, h⟩
theorem Ends.snoc {xs ys : List Int} (h : Ends xs) (h2 : ys = [] ∨ Ends ys) : Ends (xs ++ ys) := by
  rcases h2 with rfl | h2
  · rw [List.append_nil]; exact h
  · exact h2.app xs
theorem ends_itoa (a : Int) : Ends (itoaL a ++ [10]) := by
  obtain ⟨h1, h2, _⟩ := tok_i a
  refine ⟨(itoaL a).dropLast, (itoaL a).getLast h1, ?_, ?_⟩
  · have := List.dropLast_concat_getLast h1
    rw [show (itoaL a).dropLast ++ [(itoaL a).getLast h1, 10] = ((itoaL a).dropLast ++ [(itoaL a).getLast h1]) ++ [10] by simp, this]
  · unfold inW
    rw [h2 _ (List.getLast_mem h1)]; rfl
theorem ends_line1 (a : Int) : Ends (lineL [a]) := by
  have := lineL_1 a []
  rw [List.append_nil] at this
  rw [this]
  exact ends_itoa a
theorem ends_line3 (a b c : Int) : Ends (lineL [a, b, c]) := by
  have := lineL_3 a b c []
  rw [List.append_nil] at this
  rw [this]
  have h := (((ends_itoa c).app [32]).app (itoaL b)).app ([32] : List Int) |>.app (itoaL a)
  simpa using h
theorem ends_line5 (a b c d e : Int) : Ends (lineL [a, b, c, d, e]) := by
  have := lineL_5 a b c d e []
  rw [List.append_nil] at this
  rw [this]
  have h := (((((ends_itoa e).app [32]).app (itoaL d)).app ([32] : List Int) |>.app (itoaL c)).app ([32] : List Int) |>.app (itoaL b)).app ([32] : List Int) |>.app (itoaL a)
  simpa using h
theorem ends_ins (k : Nat) : ∀ r, insF k r = [] ∨ Ends (insF k r)
  | 0 => .inl rfl
  | r + 1 => .inr ((ends_line1 _).snoc (ends_ins (k + 1) r))
theorem ends_outs : ∀ os : List Int, outsT os = [] ∨ Ends (outsT os)
  | [] => .inl rfl
  | x :: os => .inr (by
    have e1 : outsT (x :: os) = lineL [x] ++ outsT os := by simp [outsT]
    rw [e1]
    exact (ends_line1 x).snoc (ends_outs os))
theorem ends_gates (i : Nat) : ∀ (ps : List (Int × Int)) (k : Nat), gatesT i k ps = [] ∨ Ends (gatesT i k ps)
  | [], _ => .inl rfl
  | x :: ps, k => .inr (by rw [gatesT]; exact (ends_line3 _ _ _).snoc (ends_gates i ps (k + 1)))
theorem ends_text (i : Nat) (ps : List (Int × Int)) (os : List Int) : Ends (textA i ps os) := by
  unfold textA headT
  rw [insT_F]
  exact ((((ends_line5 _ _ _ _ _).app [97, 97, 103, 32]).snoc (ends_ins 0 i)).snoc (ends_outs os)).snoc (ends_gates i ps 0)
theorem readR_cut (e : Int) (i : Nat) (ps : List (Int × Int)) (os : List Int) (m : Nat) (hm : m + 1 < (textA i ps os).length) : readR e (wordsL false ((textA i ps os).take m)) ≠ (((i : Int), ps, os), none) := by
  intro h
  have h1 := readR_wlen h
  rw [wlen_words] at h1
  obtain ⟨A, d, hA, hd⟩ := ends_text i ps os
  rw [hA] at h1 hm
  have hl : m ≤ A.length := by simp at hm; omega
  rw [List.take_append_of_le_length hl, nb_append, nb_cons, hd] at h1
  have := nb_take m A
  simp at h1
  omega
end Go.Proofs.YtfkodpglgeghlaaDoor

namespace Go.Proofs.YtfkodpglgeghlaaDoor
open Go.RowKit

theorem run_append_none (w : World) (base : Nat) (t ty e : TypeId) (i : TypeInfo) (size : Nat) (ht : Tryd.prog.underlying t = some (.slice e)) (hi : Tryd.prog.info? e = some i)
    (v : Value) (n : Nat) (xs : List Value) (hown : w.ownsRow base e size v n xs) (c : Nat) :
    (Builtin.append_ #[t, t] ty #[v, .slice none 0 c]).run Tryd.prog w = .ok v w := by
  rcases hown.2 with ⟨rfl, rfl⟩ | ⟨g, cap, cur, rfl, _, _, hnc, _⟩
  · simp [Builtin.append_, run_underlying ht, Go.sizeOf, typeInfo, hi, Builtin.lenOf, Builtin.firstCells]
  · simp [Builtin.append_, run_underlying ht, Go.sizeOf, typeInfo, hi, Builtin.lenOf, Builtin.firstCells, hnc, storeCells]
theorem run_append_any (T E : TypeId) (z : Value) (size bytes : Nat) (hT : Tryd.prog.underlying T = some (.slice E))
    (hE : (Tryd.prog.info? E).map (fun i => (i.zero, i.size, i.bytes)) = some (some z, size, bytes)) (hzc : z.cells.size = size) (hsz : 0 < size) (hby : bytes ≤ 100) (ty : TypeId)
    (w : World) (B : Nat) (v : Value) (n : Nat) (xs : List Value) (ao : Option Addr) (m c : Nat) (news : List Value)
    (hown : w.ownsRow B E size v n xs) (hB : B ≤ w.heap.size) (hn : n + m < 1099511627776) (hl : news.length = m * size) (hc : m = 0 ∨ ∃ ad, ao = some ad ∧ ∀ j u, news[j]? = some u → w.cell? (ad.add j) = some u) (h1 : ∀ u ∈ news, u.oneCell' = true) :
    ∃ v' w', (Builtin.append_ #[T, T] ty #[v, .slice ao m c]).run Tryd.prog w = .ok v' w' ∧ w'.ownsRow B E size v' (n + m) (xs ++ news) ∧ App B w w' v v' := by
  obtain ⟨i0, hi, hz0, hz1, hz2⟩ := info_parts hE
  cases ao with
  | none =>
    have hm0 : m = 0 := by
      rcases hc with h | ⟨ad, h, _⟩
      · exact h
      · cases h
    subst hm0
    have hy : news = [] := List.eq_nil_of_length_eq_zero (by omega)
    subst hy
    exact ⟨v, w, run_append_none w B T ty E i0 size hT hi v n xs hown c, by simpa using hown, Below.refl _ _, fun _ _ _ => rfl, .inl rfl⟩
  | some ad =>
    obtain ⟨v', w', hr, h2, h3, _, h5⟩ := run_append_own_at (P := Tryd.prog) w B T ty E i0 z size bytes hT hi hz0 hz1 hz2 hzc hsz v n xs hown ad m c news hl (by
      rcases hc with h0 | ⟨ad', e, hc⟩
      · subst h0
        have hy : news = [] := List.eq_nil_of_length_eq_zero (by omega)
        subst hy
        intro j u hj; simp at hj
      · obtain rfl := Option.some.inj e
        exact hc) h1 (by unfold maxLen; omega) (Nat.le_trans (Nat.mul_le_mul (Nat.le_of_lt hn) hby) (by decide)) hB
    exact ⟨v', w', hr, h2, (Below.refl B w).grown h3 hB fun k hk => (hown.lt k hk).1, fun k hk hne => h3.block k hk hne, h5.imp id fun e => ⟨_, e, Nat.le_refl _⟩⟩

/-- 'append(v, ys...)', v a row of the call's own. -/
theorem wpList_appC {ops : Array Oper} {rest : List Oper} {o : Oper} {a : Act} {Q : Exit → Act → World → Prop} (T E : TypeId) (z : Value) (size bytes : Nat) (hT : Tryd.prog.underlying T = some (.slice E))
    (hE : (Tryd.prog.info? E).map (fun i => (i.zero, i.size, i.bytes)) = some (some z, size, bytes)) (hzc : z.cells.size = size) (hsz : 0 < size) (hby : bytes ≤ 100) (hgd : o.guard = none) (s x : Operand)
    (ho : o.op = .call { callee := .builtin .append, args := #[s, x], argTypes := #[T, T] })
    (w : World) (B : Nat) (v : Value) (n : Nat) (xs : List Value) (ao : Option Addr) (m c : Nat) (news : List Value)
    (hown : w.ownsRow B E size v n xs) (hB : B ≤ w.heap.size) (hn : n + m < 1099511627776) (hl : news.length = m * size) (hc : m = 0 ∨ ∃ ad, ao = some ad ∧ ∀ j u, news[j]? = some u → w.cell? (ad.add j) = some u) (h1 : ∀ u ∈ news, u.oneCell' = true)
    (hs : a.eval s = v) (hx : a.eval x = .slice ao m c)
    (h : ∀ v' w', w'.ownsRow B E size v' (n + m) (xs ++ news) → App B w w' v v' → wpList Tryd.prog ops Q rest (a.put o.dst v') w') :
    wpList Tryd.prog ops Q (o :: rest) a w := by
  refine wpList_plain hgd fun K hK => ?_
  obtain ⟨v', w', hr, h2, h3⟩ := run_append_any T E z size bytes hT hE hzc hsz hby o.type w B v n xs ao m c news hown hB hn hl hc h1
  unfold Oper.wp execOp
  simp only [ho, resolve, invoke, builtin, Sem.run_bind, Sem.run_pure, Result.andThen_ok, List.map_toArray, List.map_cons, List.map_nil, hs, hx, hr]
  exact hK _ _ (h v' w' h2 h3)

/-- The same as one step of a region that draws. -/
theorem step_appC {ops : Array Oper} {o : Oper} {a : Act} {K : Act → World → Prop} {Q : Exit → Act → World → Prop} {EE : Prop} (T E : TypeId) (z : Value) (size bytes : Nat) (hT : Tryd.prog.underlying T = some (.slice E))
    (hE : (Tryd.prog.info? E).map (fun i => (i.zero, i.size, i.bytes)) = some (some z, size, bytes)) (hzc : z.cells.size = size) (hsz : 0 < size) (hby : bytes ≤ 100) (hgd : o.guard = none) (s x : Operand)
    (ho : o.op = .call { callee := .builtin .append, args := #[s, x], argTypes := #[T, T] })
    (w : World) (B : Nat) (v : Value) (n : Nat) (xs : List Value) (ao : Option Addr) (m c : Nat) (news : List Value)
    (hown : w.ownsRow B E size v n xs) (hB : B ≤ w.heap.size) (hn : n + m < 1099511627776) (hl : news.length = m * size) (hc : m = 0 ∨ ∃ ad, ao = some ad ∧ ∀ j u, news[j]? = some u → w.cell? (ad.add j) = some u) (h1 : ∀ u ∈ news, u.oneCell' = true)
    (hs : a.eval s = v) (hx : a.eval x = .slice ao m c)
    (h : ∀ v' w', w'.ownsRow B E size v' (n + m) (xs ++ news) → App B w w' v v' → K (a.put o.dst v') w') :
    if Region.wanted o (yielded ops a.tmps) = true then Oper.wp Tryd.prog o a w K Q else EE := by
  have hw : Region.wanted o (yielded ops a.tmps) = true := by simp [Region.wanted, hgd]
  rw [if_pos hw]
  obtain ⟨v', w', hr, h2, h3⟩ := run_append_any T E z size bytes hT hE hzc hsz hby o.type w B v n xs ao m c news hown hB hn hl hc h1
  unfold Oper.wp execOp
  simp only [ho, resolve, invoke, builtin, Sem.run_bind, Sem.run_pure, Result.andThen_ok, List.map_toArray, List.map_cons, List.map_nil, hs, hx, hr]
  exact h v' w' h2 h3
end Go.Proofs.YtfkodpglgeghlaaDoor

namespace Go.Proofs.YtfkodpglgeghlaaDoor
open Go.RowKit

def okP (n k : Nat) (x : Int × Int) : Bool := decide (0 ≤ x.2) && decide (x.2 ≤ x.1) && decide (x.1 / 2 ≤ ((n + k : Nat) : Int))
def okO (m : Nat) (o : Int) : Bool := decide (0 ≤ o) && decide (o / 2 ≤ (m : Int))
theorem okP_iff (n k : Nat) (x : Int × Int) : okP n k x = true ↔ 0 ≤ x.2 ∧ x.2 ≤ x.1 ∧ x.1 / 2 ≤ ((n + k : Nat) : Int) := by
  unfold okP; simp [and_assoc]
theorem okO_iff (m : Nat) (o : Int) : okO m o = true ↔ 0 ≤ o ∧ o / 2 ≤ (m : Int) := by unfold okO; simp
theorem lit_cells (W : World) (z : Int) : ∀ j u, [Value.int .i64 z][j]? = some u → (W.alloc (.cells #[.int .i64 z] 3)).cell? ((⟨W.heap.size, 0, none⟩ : Addr).add j) = some u := by
  intro j u hj
  match j, hj with
  | 0, hj => simp at hj; subst hj; simp [Addr.add]
theorem lit_one (z : Int) : ∀ u ∈ [Value.int .i64 z], u.oneCell' = true := by
  intro u hu
  simp at hu
  subst hu
  rfl
theorem cir_set {w W : World} {E : TypeId} {s n : Nat} {u : Value} {xs : List Value} (h : W.ownsRow (w.heap.size + 1) E s u n xs) (a b c : Value) : (((W.setCell ⟨w.heap.size, 0, none⟩ a).setCell ⟨w.heap.size, 1, none⟩ b).setCell ⟨w.heap.size, 2, none⟩ c).ownsRow (w.heap.size + 1) E s u n xs :=
  ownsRow_setCell_below (ownsRow_setCell_below (ownsRow_setCell_below h (a := ⟨w.heap.size, 0, none⟩) (Nat.lt_succ_self _) _) (a := ⟨w.heap.size, 1, none⟩) (Nat.lt_succ_self _) _) (a := ⟨w.heap.size, 2, none⟩) (Nat.lt_succ_self _) _
theorem okA_snoc {n : Nat} {ps : List (Int × Int)} (h : ∀ k, k < ps.length → okP n k (ps.getD k (0, 0)) = true) {x : Int × Int} (hx : okP n ps.length x = true) : ∀ k, k < (ps ++ [x]).length → okP n k ((ps ++ [x]).getD k (0, 0)) = true := by
  intro k hk
  simp only [List.length_append, List.length_singleton] at hk
  by_cases e : k < ps.length
  · rw [show (ps ++ [x]).getD k (0, 0) = ps.getD k (0, 0) by simp [List.getD, List.getElem?_append_left e]]; exact h k e
  · have e2 : k = ps.length := by omega
    subst e2
    rw [show (ps ++ [x]).getD ps.length (0, 0) = x by simp [List.getD]]; exact hx
theorem okP_mod (n k : Nat) (a b : Int) : okP n k (max (a % (2 * ((n : Int) + k + 1))) (b % (2 * ((n : Int) + k + 1))), min (a % (2 * ((n : Int) + k + 1))) (b % (2 * ((n : Int) + k + 1)))) = true := by
  have h1 := Int.emod_nonneg a (show (2 * ((n : Int) + k + 1)) ≠ 0 by omega)
  have h2 := Int.emod_lt_of_pos a (show (0 : Int) < 2 * ((n : Int) + k + 1) by omega)
  have h3 := Int.emod_nonneg b (show (2 * ((n : Int) + k + 1)) ≠ 0 by omega)
  have h4 := Int.emod_lt_of_pos b (show (0 : Int) < 2 * ((n : Int) + k + 1) by omega)
  rw [okP_iff]
  simp only
  omega
theorem okO_mod (n m : Nat) (a : Int) : okO (n + m) (a % (2 * ((n : Int) + m + 1))) = true := by
  have h1 := Int.emod_nonneg a (show (2 * ((n : Int) + m + 1)) ≠ 0 by omega)
  have h2 := Int.emod_lt_of_pos a (show (0 : Int) < 2 * ((n : Int) + m + 1) by omega)
  rw [okO_iff]
  omega

/-- The circuit's own cells at r + 1, the result's at r. -/
structure CX (W : World) (r : Nat) (n : Int) (u o : Value) : Prop where
  c0 : W.cell? ⟨r + 1, 0, none⟩ = some (.int .i64 n)
  c1 : W.cell? ⟨r + 1, 1, none⟩ = some u
  c2 : W.cell? ⟨r + 1, 2, none⟩ = some o
  fr : ∀ k, W.frozen? ⟨r + 1, k, none⟩ = false
  r0 : W.cell? ⟨r, 0, none⟩ = some (.int .i64 0)
  r1 : W.cell? ⟨r, 1, none⟩ = some (.slice none 0 0)
  r2 : W.cell? ⟨r, 2, none⟩ = some (.slice none 0 0)
  rf : ∀ k, W.frozen? ⟨r, k, none⟩ = false
  sz : r + 2 ≤ W.heap.size
theorem CX.below {W W' : World} {r : Nat} {n : Int} {u o : Value} (h : CX W r n u o) (hb : Below (r + 2) W W') : CX W' r n u o where
  c0 := (hb.cell (p := ⟨r + 1, 0, none⟩) (Nat.lt_succ_self _)).trans h.c0
  c1 := (hb.cell (p := ⟨r + 1, 1, none⟩) (Nat.lt_succ_self _)).trans h.c1
  c2 := (hb.cell (p := ⟨r + 1, 2, none⟩) (Nat.lt_succ_self _)).trans h.c2
  fr := fun k => (hb.frozen (p := ⟨r + 1, k, none⟩) (Nat.lt_succ_self _)).trans (h.fr k)
  r0 := (hb.cell (p := ⟨r, 0, none⟩) (by show r < r + 2; omega)).trans h.r0
  r1 := (hb.cell (p := ⟨r, 1, none⟩) (by show r < r + 2; omega)).trans h.r1
  r2 := (hb.cell (p := ⟨r, 2, none⟩) (by show r < r + 2; omega)).trans h.r2
  rf := fun k => (hb.frozen (p := ⟨r, k, none⟩) (by show r < r + 2; omega)).trans (h.rf k)
  sz := Nat.le_trans h.sz hb.size
theorem CX.set1 {W : World} {r : Nat} {n : Int} {u o : Value} (h : CX W r n u o) (u' : Value) : CX (W.setCell ⟨r + 1, 1, none⟩ u') r n u' o where
  c0 := (set_off (.inr (by decide))).trans h.c0
  c1 := set_at h.c1
  c2 := (set_off (.inr (by decide))).trans h.c2
  fr := fun k => (World.frozen?_setCell _ _ _ _).trans (h.fr k)
  r0 := (set_off (.inl (by omega))).trans h.r0
  r1 := (set_off (.inl (by omega))).trans h.r1
  r2 := (set_off (.inl (by omega))).trans h.r2
  rf := fun k => (World.frozen?_setCell _ _ _ _).trans (h.rf k)
  sz := by have := h.sz; simpa using this
theorem CX.set2 {W : World} {r : Nat} {n : Int} {u o : Value} (h : CX W r n u o) (o' : Value) : CX (W.setCell ⟨r + 1, 2, none⟩ o') r n u o' where
  c0 := (set_off (.inr (by decide))).trans h.c0
  c1 := (set_off (.inr (by decide))).trans h.c1
  c2 := set_at h.c2
  fr := fun k => (World.frozen?_setCell _ _ _ _).trans (h.fr k)
  r0 := (set_off (.inl (by omega))).trans h.r0
  r1 := (set_off (.inl (by omega))).trans h.r1
  r2 := (set_off (.inl (by omega))).trans h.r2
  rf := fun k => (World.frozen?_setCell _ _ _ _).trans (h.rf k)
  sz := by have := h.sz; simpa using this
theorem CX.start (w : World) (n : Int) (T : TypeId) : CX ((w.alloc (.cells #[.int .i64 0, .slice none 0 0, .slice none 0 0] T)).alloc (.cells #[.int .i64 n, .slice none 0 0, .slice none 0 0] T)) w.heap.size n (.slice none 0 0) (.slice none 0 0) := by
  have hz : (w.alloc (.cells #[.int .i64 0, .slice none 0 0, .slice none 0 0] T)).heap.size = w.heap.size + 1 := by simp
  have hn := heap_alloc_new (w.alloc (.cells #[.int .i64 0, .slice none 0 0, .slice none 0 0] T)) (.cells #[.int .i64 n, .slice none 0 0, .slice none 0 0] T)
  rw [hz] at hn
  have ho := heap_alloc_new w (.cells #[.int .i64 0, .slice none 0 0, .slice none 0 0] T)
  have hb : Below (w.heap.size + 1) (w.alloc (.cells #[.int .i64 0, .slice none 0 0, .slice none 0 0] T)) ((w.alloc (.cells #[.int .i64 0, .slice none 0 0, .slice none 0 0] T)).alloc (.cells #[.int .i64 n, .slice none 0 0, .slice none 0 0] T)) := (Below.refl _ _).alloc (by simp) _
  refine ⟨?_, ?_, ?_, fun k => ?_, ?_, ?_, ?_, fun k => ?_, by simp⟩
  · rw [cell_of_row _ _ 0 _ T (0, 0) hn]; rfl
  · rw [cell_of_row _ _ 1 _ T (0, 0) hn]; rfl
  · rw [cell_of_row _ _ 2 _ T (0, 0) hn]; rfl
  · simp only [World.frozen?, hn]; simp
  · rw [hb.cell (p := ⟨w.heap.size, 0, none⟩) (Nat.lt_succ_self _), cell_of_row _ _ 0 _ T (0, 0) ho]; rfl
  · rw [hb.cell (p := ⟨w.heap.size, 1, none⟩) (Nat.lt_succ_self _), cell_of_row _ _ 1 _ T (0, 0) ho]; rfl
  · rw [hb.cell (p := ⟨w.heap.size, 2, none⟩) (Nat.lt_succ_self _), cell_of_row _ _ 2 _ T (0, 0) ho]; rfl
  · rw [hb.frozen (p := ⟨w.heap.size, k, none⟩) (Nat.lt_succ_self _)]; simp only [World.frozen?, ho]; simp
end Go.Proofs.YtfkodpglgeghlaaDoor

namespace Go.Proofs.YtfkodpglgeghlaaDoor
open Go.RowKit

/-- The load of the outputs' cell: it turns within its region. -/
def ldMk : Op := Op.load 22 (Operand.tmp 60)
theorem ldMk_eq : ldMk = Op.load 22 (Operand.tmp 60) := rfl
theorem step_ldMk {ops : Array Oper} {o : Oper} {a : Act} {K : Act → World → Prop} {Q : Exit → Act → World → Prop} {EE : Prop} (hgd : o.guard = none) (ho : o.op = ldMk) (w : World) (b i : Nat) (v : Value) (hx : a.eval (Operand.tmp 60) = .pointer (some ⟨b, i, none⟩)) (hc : w.cell? ⟨b, i, none⟩ = some v) (h : K (a.put o.dst v) w) :
    if Region.wanted o (yielded ops a.tmps) = true then Oper.wp Tryd.prog o a w K Q else EE := by
  rw [if_pos (by simp [Region.wanted, hgd])]
  have hrun : (loadVar 22 ⟨b, i, none⟩).run Tryd.prog w = .ok v w := by
    simp [loadVar, isAgg, run_underlying Tryd.underlying22, hc, go_sem]
  have ho' := ho.trans ldMk_eq
  unfold Oper.wp execOp
  simp only [ho', hx, Instr.loadAt, Instr.sureAddr, Sem.run_bind, Sem.run_pure, Result.andThen_ok, hrun]
  exact h
/-- What it answers. -/
def MkPost (w : World) (N : Nat) (l o : Nat) (e : Ending) (w' : World) : Prop :=
  (∃ u v ps os, e = .returned (circV (N : Int) u v) ∧ PRow w' u ps ∧ Row w' v os ∧ RightC N ps os ∧ 2 * ps.length ≤ l + 1 ∧ os.length = o) ∧ Below w.heap.size w w'
theorem mk_right {N : Nat} {ps : List (Int × Int)} {os : List Int} (hn : N + ps.length ≤ 8000) (ho2 : os.length ≤ 8000) (h : ∀ k, k < ps.length → okP N k (ps.getD k (0, 0)) = true) (ho : ∀ o ∈ os, okO (N + ps.length) o = true) : RightC N ps os := by
  refine ⟨hn, ho2, fun j hj => ?_, fun x hx => ?_⟩
  · have := (okP_iff _ _ _).1 (h j hj)
    omega
  · have := (okO_iff _ _).1 (ho x hx)
    omega

set_option maxRecDepth 8000 in
set_option maxHeartbeats 4000000 in
theorem mkc_any (N : Nat) (u v : Value) (ls os : List Int) (w : World) (hu : Row w u ls) (hv : Row w v os) (hN : N ≤ 50) (hl : ls.length ≤ 200) (ho : os.length ≤ 40) (hlb : ∀ y ∈ ls, in64 y) (hob : ∀ y ∈ os, in64 y) :
    Calls Tryd.prog 10 #[.int .i64 (N : Int), u, v] w (MkPost w N ls.length os.length) := by
  obtain ⟨a1, c1, rfl, hu1, hu2, hu3⟩ := hu
  obtain ⟨a2, c2, rfl, hv1, hv2, hv3⟩ := hv
  unfold maxLen at hu2 hv2
  have HU := Lib.hid hu3; clear hu3
  have HV := Lib.hid hv3; clear hv3
  have HLB : Hid (∀ k, k < ls.length → in64 (ls.getD k 0)) := fun k hk => hlb _ (by simp [List.getD, hk])
  have HOB : Hid (∀ k, k < os.length → in64 (os.getD k 0)) := fun k hk => hob _ (by simp [List.getD, hk])
  clear hlb hob
  generalize hmm : ls.length = m at *
  generalize hll : os.length = l at *
  have HM := Lib.hid hmm; clear hmm
  have HLL := Lib.hid hll; clear hll
  go_enter Tryd.func10, Tryd.ntmps10
  go_wp2_with fail
  have HC0 := Lib.hid (CX.start w (N : Int) 27)
  have HB0 : Hid (Below w.heap.size w ((w.alloc (.cells #[.int .i64 0, .slice none 0 0, .slice none 0 0] 27)).alloc (.cells #[.int .i64 (N : Int), .slice none 0 0, .slice none 0 0] 27))) := ((Below.refl _ w).alloc (Nat.le_refl _) _).alloc (by simp) _
  go_loopw [8, 9, 10, 11] (fun i _ _ _ wr => ∃ (k : Nat) (u : Value) (ps : List (Int × Int)), 2 * k ≤ m + 1 ∧ i = .int .i64 ((2 * k : Nat) : Int) ∧ CX wr w.heap.size (N : Int) u (.slice none 0 0) ∧ wr.ownsRow (w.heap.size + 2) 48 2 u k (ps.flatMap pcells) ∧ Below w.heap.size w wr ∧ ps.length = k ∧ Hid (∀ j, j < ps.length → okP N j (ps.getD j (0, 0)) = true)) (fun i _ _ _ _ => m + 2 - (intOf i).toNat)
  case atStart => exact ⟨0, _, [], by omega, rfl, HC0.out, World.ownsRow_nil _ _ _ _, HB0.out, rfl, fun j hj => absurd hj (Nat.not_lt_zero _)⟩
  case round =>
    obtain ⟨k, u, ps, hk, rfl, hcx, hrow, hbr, hpl, HQ⟩ := hrel
    clear HC0 HB0
    obtain ⟨au, cu, rfl, hcu1, hcu2⟩ := row_shape hrow
    have HCX := Lib.hid hcx
    have hsz := hcx.sz
    obtain ⟨d0, d1, d2, df, _, _, _, _, _⟩ := hcx
    by_cases hlt : 2 * k + 1 < m
    · obtain ⟨q, off, ha, hql, hcl⟩ := HU.out.resolve_left (by omega)
      subst ha
      have y0 := (hbr.cell (p := ⟨q, off + 2 * k, none⟩) hql).trans (hcl (2 * k) (by omega))
      have y1 := (hbr.cell (p := ⟨q, off + (2 * k + 1), none⟩) hql).trans (hcl (2 * k + 1) hlt)
      obtain ⟨b1, b2⟩ := HLB.out (2 * k) (by omega)
      obtain ⟨b3, b4⟩ := HLB.out (2 * k + 1) hlt
      clear hcl
      generalize ls.getD (2 * k) 0 = a at *
      generalize ls.getD (2 * k + 1) 0 = b at *
      have NA := Lib.hid (number_any a (2 * ((N : Int) + (k : Int) + 1)) wr (by omega) (by omega) b1 b2)
      have NB := Lib.hid (number_any b (2 * ((N : Int) + (k : Int) + 1)) wr (by omega) (by omega) b3 b4)
      have HOK := Lib.hid (okP_mod N k a b)
      generalize a % (2 * ((N : Int) + (k : Int) + 1)) = x at *
      generalize b % (2 * ((N : Int) + (k : Int) + 1)) = y at *
      have HBR := Lib.hid hbr
      have HF : Hid (∀ (x y : Int) v' w2, okP N k (x, y) = true → w2.ownsRow (w.heap.size + 2) 48 2 v' (k + 1) (ps.flatMap pcells ++ pcells (x, y)) → App (w.heap.size + 2) wr w2 (.slice au k cu) v' → CX (w2.setCell ⟨w.heap.size + 1, 1, none⟩ v') w.heap.size (N : Int) v' (.slice none 0 0) ∧ (w2.setCell ⟨w.heap.size + 1, 1, none⟩ v').ownsRow (w.heap.size + 2) 48 2 v' (k + 1) ((ps ++ [(x, y)]).flatMap pcells) ∧ Below w.heap.size w (w2.setCell ⟨w.heap.size + 1, 1, none⟩ v') ∧ (ps ++ [(x, y)]).length = k + 1 ∧ Hid (∀ j, j < (ps ++ [(x, y)]).length → okP N j ((ps ++ [(x, y)]).getD j (0, 0)) = true)) := fun x y v' w2 hx hown hap =>
        ⟨(HCX.out.below hap.below).set1 v', ownsRow_setCell_below (by simpa using hown) (a := ⟨w.heap.size + 1, 1, none⟩) (Nat.lt_succ_self _) _, (HBR.out.trans (hap.below.mono (by omega))).setCell (by simp) _, by simp [hpl], okA_snoc HQ.out (by rw [hpl]; exact hx)⟩
      have HKB : Hid (∀ w2 v', App (w.heap.size + 2) wr w2 (.slice au k cu) v' → w2.cell? ⟨w.heap.size + 1, 1, none⟩ = some (.slice au k cu) ∧ ∀ k, w2.frozen? ⟨w.heap.size + 1, k, none⟩ = false) := fun w2 v' hap => ⟨(HCX.out.below hap.below).c1, (HCX.out.below hap.below).fr⟩
      have hk2 : k < 1000 := by omega
      clear hbr HU HV HLB HOB b1 b2 b3 b4 HQ hpl
      go_wp2_with fail
      refine NA.out.mono ?_
      rintro e w' ⟨rfl, rfl⟩
      go_wp2_with fail
      refine NB.out.mono ?_
      rintro e w' ⟨rfl, rfl⟩
      have H3 : (y < x ∧ ¬ x < y ∧ max x y = x ∧ min x y = y) ∨ (x < y ∧ ¬ y < x ∧ max x y = y ∧ min x y = x) ∨ x = y := by omega
      rcases H3 with ⟨h1, h2, e1, e2⟩ | ⟨h1, h2, e1, e2⟩ | rfl
      · rw [e1, e2] at HOK
        clear e1 e2
        have HFF := Lib.hid (fun v' w2 => HF.out x y v' w2 HOK.out)
        clear HF HOK
        go_wp2_with (at_builtin; refine wpList_appS 25 48 _ 2 16 Tryd.underlying25 infoA rfl (by decide) (by decide) rfl _ _ rfl wr (w.heap.size + 2) _ k (ps.flatMap pcells) (pcells (x, y)) (pcells_one _) rfl hrow hsz (by omega) _ rfl rfl rfl ?_; intro v' w2 hown2 hap; obtain ⟨e1, ef⟩ := HKB.out w2 v' hap; obtain ⟨a', c', rfl, _, _⟩ := row_shape hown2)
        go_roundw
        case rel =>
          obtain ⟨f1, f2, f3, f4, f5⟩ := HFF.out _ w2 hown2 hap
          exact ⟨k + 1, _, _, by omega, by go_num, f1, f2, f3, f4, f5⟩
        case measure => simp [intOf]; omega
      · rw [e1, e2] at HOK
        clear e1 e2
        have HFF := Lib.hid (fun v' w2 => HF.out y x v' w2 HOK.out)
        clear HF HOK
        go_wp2_with (at_builtin; refine wpList_appS 25 48 _ 2 16 Tryd.underlying25 infoA rfl (by decide) (by decide) rfl _ _ rfl wr (w.heap.size + 2) _ k (ps.flatMap pcells) (pcells (y, x)) (pcells_one _) rfl hrow hsz (by omega) _ rfl rfl rfl ?_; intro v' w2 hown2 hap; obtain ⟨e1, ef⟩ := HKB.out w2 v' hap; obtain ⟨a', c', rfl, _, _⟩ := row_shape hown2)
        go_roundw
        case rel =>
          obtain ⟨f1, f2, f3, f4, f5⟩ := HFF.out _ w2 hown2 hap
          exact ⟨k + 1, _, _, by omega, by go_num, f1, f2, f3, f4, f5⟩
        case measure => simp [intOf]; omega
      · rw [show max x x = x by omega, show min x x = x by omega] at HOK
        have h1 : ¬ x < x := Int.lt_irrefl x
        have HFF := Lib.hid (fun v' w2 => HF.out x x v' w2 HOK.out)
        clear HF HOK
        go_wp2_with (at_builtin; refine wpList_appS 25 48 _ 2 16 Tryd.underlying25 infoA rfl (by decide) (by decide) rfl _ _ rfl wr (w.heap.size + 2) _ k (ps.flatMap pcells) (pcells (x, x)) (pcells_one _) rfl hrow hsz (by omega) _ rfl rfl rfl ?_; intro v' w2 hown2 hap; obtain ⟨e1, ef⟩ := HKB.out w2 v' hap; obtain ⟨a', c', rfl, _, _⟩ := row_shape hown2)
        go_roundw
        case rel =>
          obtain ⟨f1, f2, f3, f4, f5⟩ := HFF.out _ w2 hown2 hap
          exact ⟨k + 1, _, _, by omega, by go_num, f1, f2, f3, f4, f5⟩
        case measure => simp [intOf]; omega
    · rename World => wq
      have hub : Hid (∀ i ∈ rowB (.slice au k cu), i < wq.heap.size) := rowB_lt hrow
      have hrq : w.heap.size + 2 ≤ wq.heap.size := HCX.out.sz
      have HBQ := Lib.hid hbr
      have HROW := Lib.hid hrow
      have hk2 : N + k ≤ 1000 := by omega
      clear hbr hrow
      have HKM : Hid (2 * k ≤ m + 1) := by unfold Hid; omega
      go_wp2_with fail
      clear d0 d1 d2 df hlt hk
      generalize ((2 * k : Nat) : Int) = z12 at *
      generalize 2 * (k : Int) = z13 at *
      go_loopw [12] (fun i wr2 => ∃ (t : Nat) (o : Value) (xs : List Int), t ≤ l ∧ i = .int .i64 t ∧ CX wr2 w.heap.size (N : Int) (.slice au k cu) o ∧ wr2.ownsRow wq.heap.size 3 1 o t (xs.map (Value.int .i64)) ∧ wr2.ownsRow (w.heap.size + 2) 48 2 (.slice au k cu) k (ps.flatMap pcells) ∧ Below w.heap.size w wr2 ∧ wq.heap.size ≤ wr2.heap.size ∧ xs.length = t ∧ Hid (∀ o ∈ xs, okO (N + k) o = true)) (fun i _ => l - (intOf i).toNat)
      case atStart => exact ⟨0, _, [], Nat.zero_le _, rfl, HCX.out, World.ownsRow_nil _ _ _ _, HROW.out, HBQ.out, Nat.le_refl _, rfl, fun o h => by cases h⟩
      case round =>
        obtain ⟨t, o, xs, ht, rfl, hcx, hown, hrow2, hbr, hsq, hxl, HX⟩ := hrel
        clear HCX HROW
        obtain ⟨ao, co, rfl, hco1, hco⟩ := own_shape hown
        unfold maxLen at hco
        have HCY := Lib.hid hcx
        by_cases hlt2 : t < l
        · obtain ⟨q, off, ha, hql, hcl⟩ := HV.out.resolve_left (by omega)
          subst ha
          have y0 := (hbr.cell (p := ⟨q, off + t, none⟩) hql).trans (hcl t hlt2)
          have hq0 := hcl t hlt2
          obtain ⟨b1, b2⟩ := HOB.out t hlt2
          clear hcl
          generalize os.getD t 0 = a at *
          have HOK := Lib.hid (okO_mod N k a)
          have NA := Lib.hid (number_any a (2 * ((N : Int) + (k : Int) + 1)) wr.drew (by omega) (by omega) b1 b2)
          generalize a % (2 * ((N : Int) + (k : Int) + 1)) = z at *
          have hBA : Below wr.heap.size wr (wr.drew.alloc (.cells #[.int .i64 z] 3)) := ((Below.refl _ _).drew).alloc (Nat.le_refl _) _
          have HOW := Lib.hid (own_keep hown hBA)
          have HSA : Hid (wq.heap.size ≤ (wr.drew.alloc (.cells #[.int .i64 z] 3)).heap.size) := Nat.le_trans hsq hBA.size
          have HF : Hid (∀ o' w6, w6.ownsRow wq.heap.size 3 1 o' (t + 1) (xs.map (Value.int .i64) ++ [.int .i64 z]) → App wq.heap.size (wr.drew.alloc (.cells #[.int .i64 z] 3)) w6 (.slice ao t co) o' → (w6.cell? ⟨w.heap.size + 1, 2, none⟩ = some (.slice ao t co) ∧ (∀ k, w6.frozen? ⟨w.heap.size + 1, k, none⟩ = false) ∧ w6.cell? ⟨w.heap.size + 1, 1, none⟩ = some (.slice au k cu) ∧ w6.cell? ⟨q, off + t, none⟩ = some (.int .i64 a)) ∧ ((w6.setCell ⟨w.heap.size + 1, 2, none⟩ o').cell? ⟨w.heap.size + 1, 1, none⟩ = some (.slice au k cu) ∧ (w6.setCell ⟨w.heap.size + 1, 2, none⟩ o').cell? ⟨q, off + t, none⟩ = some (.int .i64 a)) ∧ CX (w6.setCell ⟨w.heap.size + 1, 2, none⟩ o') w.heap.size (N : Int) (.slice au k cu) o' ∧ (w6.setCell ⟨w.heap.size + 1, 2, none⟩ o').ownsRow wq.heap.size 3 1 o' (t + 1) ((xs ++ [z]).map (Value.int .i64)) ∧ (w6.setCell ⟨w.heap.size + 1, 2, none⟩ o').ownsRow (w.heap.size + 2) 48 2 (.slice au k cu) k (ps.flatMap pcells) ∧ Below w.heap.size w (w6.setCell ⟨w.heap.size + 1, 2, none⟩ o') ∧ wq.heap.size ≤ (w6.setCell ⟨w.heap.size + 1, 2, none⟩ o').heap.size ∧ (xs ++ [z]).length = t + 1 ∧ Hid (∀ o ∈ xs ++ [z], okO (N + k) o = true)) := fun o' w6 hown6 hap => by
            have hA : Below (w.heap.size + 2) wr w6 := (hBA.mono HCY.out.sz).trans (hap.below.mono hrq)
            have hc6 := HCY.out.below hA
            have hr6 := own_chg (own_keep hrow2 hBA) (Chg.app (S := rowB (.slice ao t co)) hap fun i hi => mem_rowB.2 hi) fun i hi hm => absurd (hub.out i (mem_rowB.2 hi)) (Nat.not_lt.2 (hown.lt i (mem_rowB.1 hm)).1)
            have hy6 := ((hbr.trans (hA.mono (by omega))).cell (p := ⟨q, off + t, none⟩) hql).trans hq0
            refine ⟨⟨hc6.c2, hc6.fr, hc6.c1, hy6⟩, ⟨(hc6.set2 o').c1, (World.cell?_setCell_other (w := w6) (h := fun e => by injection e with e1 _; omega) ..).trans hy6⟩, hc6.set2 o', ownsRow_setCell_below (by rw [List.map_append]; exact hown6) (a := ⟨w.heap.size + 1, 2, none⟩) (by show w.heap.size + 1 < wq.heap.size; omega) _, ownsRow_setCell_below hr6 (a := ⟨w.heap.size + 1, 2, none⟩) (Nat.lt_succ_self _) _, (hbr.trans (hA.mono (by omega))).setCell (by simp) _, ?_, by simp [hxl], ?_⟩
            · have := hap.below.size; have := HSA.out; simp; omega
            · intro o ho
              rcases List.mem_append.1 ho with h | h
              · exact HX.out o h
              · rw [List.mem_singleton] at h; subst h; exact HOK.out
          have HSS : Hid (∀ W, Below wr.heap.size wr W → W.cell? ⟨w.heap.size + 1, 1, none⟩ = some (.slice au k cu) ∧ W.cell? ⟨w.heap.size + 1, 2, none⟩ = some (.slice ao t co) ∧ W.cell? ⟨q, off + t, none⟩ = some (.int .i64 a)) := fun W h => ⟨(HCY.out.below (h.mono HCY.out.sz)).c1, (HCY.out.below (h.mono HCY.out.sz)).c2, (h.cell (p := ⟨q, off + t, none⟩) (World.block_lt_of_cell? _ _ y0)).trans y0⟩
          have HS0 := Lib.hid (HSS.out _ (Below.refl _ _))
          have HS1 := Lib.hid (HSS.out _ (Below.refl _ _).drew)
          have HS2 := Lib.hid (HSS.out _ hBA)
          clear hcx hown hrow2 hBA y0 hq0 b1 b2 HV HU HLB HOB HX HQ
          have q1 : IntKind.i64.wrap ((N : Int) + (k : Int)) = (N : Int) + (k : Int) := IntWalk.i64_in _ (by omega)
          have q2 : IntKind.i64.wrap ((N : Int) + (k : Int) + 1) = (N : Int) + (k : Int) + 1 := IntWalk.i64_in _ (by omega)
          have q3 : IntKind.i64.wrap (2 * ((N : Int) + (k : Int) + 1)) = 2 * ((N : Int) + (k : Int) + 1) := IntWalk.i64_in _ (by omega)
          go_wp2_with fail
          obtain ⟨k1, k2, k3⟩ := HS1.out
          obtain ⟨k4, k5, k6⟩ := HS2.out
          have HK1 := Lib.hid (And.intro k1 k3)
          have HK2 := Lib.hid (And.intro k4 k6)
          have HK0 := Lib.hid (And.intro HS0.out.1 HS0.out.2.2)
          have k7 : ((wr.alloc (.cells #[.int .i64 z] 3)).drew).cell? ⟨w.heap.size + 1, 2, none⟩ = some (.slice ao t co) := k5
          have hsz7 : w.heap.size + 1 < wr.heap.size := by have := HCY.out.sz; omega
          rw [← ldMk_eq]
          have hld := ldMk_eq
          clear k1 k3 k4 k6
          go_region_held3 (fun W => W.cell? ⟨w.heap.size + 1, 1, none⟩ = some (.slice au k cu) ∧ W.cell? ⟨q, off + t, none⟩ = some (.int .i64 a)) (first | (with_reducible exact HK1.out) | (with_reducible exact HK0.out) | (with_reducible exact HK2.out) | (with_reducible exact HP6.out) | (with_reducible exact HP7.out) | (exact HK2.out) | (exact HK1.out)) (first
            | (refine step_ldMk rfl rfl _ (w.heap.size + 1) 2 (.slice ao t co) rfl (by first | exact k2 | exact k5 | exact k7) ?_)
            | (go_simp; go_at_call 19; refine NA.out.mono ?_; rintro e w' ⟨rfl, rfl⟩)
            | (refine step_appC 22 3 _ 1 8 Tryd.underlying22 infoInt rfl (by decide) (by decide) rfl _ _ rfl _ wq.heap.size (.slice ao t co) t (xs.map (Value.int .i64)) (some ⟨wr.heap.size, 0, none⟩) 1 1 [.int .i64 z] HOW.out HSA.out (by omega) rfl (.inr ⟨_, rfl, lit_cells wr.drew z⟩) (lit_one z) rfl rfl ?_; intro o6 w6 hown6 hap6; obtain ⟨⟨e2, ef, e1, e0⟩, hl7, hf6⟩ := HF.out o6 w6 hown6 hap6; have HP6 := Lib.hid (And.intro e1 e0); have HF6 := Lib.hid hf6; obtain ⟨a6, c6, rfl, _, _⟩ := own_shape hown6; have HP7 := Lib.hid hl7; clear hown6 hap6 hf6 hl7 e1 e0))
          all_goals
            clear hld
            go_wp2_with fail
            go_roundw
          all_goals first
            | (obtain ⟨f1, f2, f3, f4, f5, f6, f7⟩ := HF6.out; exact ⟨t + 1, _, _, by omega, by go_num, f1, f2, f3, f4, f5, f6, f7⟩)
            | (simp [intOf]; omega)
        · have htl : l = t := by omega
          have HFIN : Hid (∀ r0 r1 r2, MkPost w N m l (.returned (circV (N : Int) (.slice au k cu) (.slice ao t co))) (((wr.setCell ⟨w.heap.size, 0, none⟩ r0).setCell ⟨w.heap.size, 1, none⟩ r1).setCell ⟨w.heap.size, 2, none⟩ r2)) := fun r0 r1 r2 => by
            refine ⟨⟨_, _, ps, xs, rfl, own_prow (cir_set (w := w) (own_base hrow2 (by omega)) r0 r1 r2), ?_, mk_right (by omega) (by omega) HQ.out (by rw [hpl]; exact HX.out), by rw [hpl]; exact HKM.out, by omega⟩, ((hbr.setCell (by simp) _).setCell (by simp) _).setCell (by simp) _⟩
            exact own_row (cir_set (w := w) (own_base hown (by omega)) r0 r1 r2)
          obtain ⟨d0, d1, d2, df, g0, g1, g2, gf, _⟩ := hcx
          clear hown hrow2 hbr
          go_wp2_with fail
          exact bodyPost_ret (v := circV (N : Int) (.slice au k cu) (.slice ao t co)) (by first | (simp [results, Tryd.results10, go_sem, circV, g0, g1, g2]; done)) rfl (HFIN.out _ _ _)
end Go.Proofs.YtfkodpglgeghlaaDoor
