/- Plain facts: a line of numbers, a circuit's text. Nothing of the program. -/
import Derived.Test.YtfkodpglgeghlaaDoorTextP
namespace Go.Proofs.YtfkodpglgeghlaaDoor

/-- Numbers with blanks between. -/
def bodyL (ns : List Int) : List Int := (ns.flatMap fun n => 32 :: itoaL n).drop 1
theorem bodyL_one (x : Int) : bodyL [x] = itoaL x := by simp [bodyL]
theorem bodyL_snoc {ns : List Int} (x : Int) (h : ns ≠ []) : bodyL (ns ++ [x]) = bodyL ns ++ (32 :: itoaL x) := by
  unfold bodyL
  cases ns with
  | nil => exact absurd rfl h
  | cons y ns => simp
def lineL (ns : List Int) : List Int := bodyL ns ++ [10]
theorem take_ne {ns : List Int} {k : Nat} (hk : 0 < k) (hl : k ≤ ns.length) : ns.take k ≠ [] := by
  intro h
  have := congrArg List.length h
  rw [List.length_take, List.length_nil] at this
  omega
/-- The lines of so many inputs. -/
def insT (k : Nat) : List Int := (List.range k).flatMap fun (j : Nat) => lineL [2 * ((j : Int) + 1)]
theorem insT_succ (k : Nat) : insT (k + 1) = insT k ++ lineL [2 * ((k : Int) + 1)] := by unfold insT; rw [List.range_succ, List.flatMap_append]; simp
def outsT (os : List Int) : List Int := os.flatMap fun o => lineL [o]
theorem outsT_succ (os : List Int) (k : Nat) (h : k < os.length) : outsT (os.take (k + 1)) = outsT (os.take k) ++ lineL [os.getD k 0] := by
  unfold outsT
  rw [List.take_succ_eq_append_getElem h, List.flatMap_append]
  simp [List.getD, h]
def gatesT (i : Nat) : Nat → List (Int × Int) → List Int
  | _, [] => []
  | k, x :: ps => lineL [2 * ((i : Int) + (k : Int) + 1), x.1, x.2] ++ gatesT i (k + 1) ps
theorem gatesT_snoc (i : Nat) (x : Int × Int) : ∀ (ps : List (Int × Int)) (k : Nat), gatesT i k (ps ++ [x]) = gatesT i k ps ++ lineL [2 * ((i : Int) + ((k + ps.length : Nat) : Int) + 1), x.1, x.2]
  | [], k => by simp [gatesT]
  | y :: ps, k => by
    rw [List.cons_append, gatesT, gatesT_snoc i x ps (k + 1), gatesT, List.append_assoc, List.length_cons, show k + 1 + ps.length = k + (ps.length + 1) by omega]
theorem gatesT_succ (i : Nat) (ps : List (Int × Int)) (k : Nat) (h : k < ps.length) : gatesT i 0 (ps.take (k + 1)) = gatesT i 0 (ps.take k) ++ lineL [2 * ((i : Int) + (k : Int) + 1), (ps.getD k (0, 0)).1, (ps.getD k (0, 0)).2] := by
  rw [List.take_succ_eq_append_getElem h, gatesT_snoc, List.length_take, Nat.zero_add, show min k ps.length = k by omega]
  simp [List.getD, h]
def headT (i o g : Nat) : List Int := [97, 97, 103, 32] ++ lineL [(i : Int) + (g : Int), (i : Int), 0, (o : Int), (g : Int)]
/-- A circuit's text. -/
def textA (i : Nat) (ps : List (Int × Int)) (os : List Int) : List Int := headT i os.length ps.length ++ insT i ++ outsT os ++ gatesT i 0 ps
theorem itoaL_bound {x : Int} (h0 : 0 ≤ x) (h1 : x < 1000000000) : (itoaL x).length ≤ 9 := by
  rw [itoaL_pos (by omega)]
  exact dec_len 8 x.toNat (by omega)
theorem bodyL_len : ∀ (ns : List Int), (∀ n ∈ ns, 0 ≤ n ∧ n < 1000000000) → (bodyL ns).length ≤ 10 * ns.length := fun ns h => by
  have h2 : ∀ ns : List Int, (∀ n ∈ ns, 0 ≤ n ∧ n < 1000000000) → (ns.flatMap fun n => 32 :: itoaL n).length ≤ 10 * ns.length := fun ns => by
    induction ns with
    | nil => intro _; simp
    | cons n ns ih =>
      intro h
      have h1 := ih (fun m hm => h m (by simp [hm]))
      have h3 := itoaL_bound (h n (by simp)).1 (h n (by simp)).2
      rw [List.flatMap_cons, List.length_append]
      simp only [List.length_cons]
      omega
  unfold bodyL
  rw [List.length_drop]
  have := h2 ns h
  omega
theorem lineL_len (ns : List Int) (h : ∀ n ∈ ns, 0 ≤ n ∧ n < 1000000000) : (lineL ns).length ≤ 10 * ns.length + 1 := by
  unfold lineL
  rw [List.length_append]
  have := bodyL_len ns h
  simp
  omega
end Go.Proofs.YtfkodpglgeghlaaDoor
