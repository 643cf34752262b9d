/- Plain facts: whether all variables of these blocks may stand there. Nothing of the program. -/
import Derived.Test.YtcodmijphejfdaaDoorBlkP
namespace Go.Proofs.YtcodmijphejfdaaDoor

/-- All variables of these blocks may stand there: what is met behind them. -/
def varsOk (vars : Int) : List Int → List Int → Option (List Int)
  | met, [] => some met
  | met, v :: r => if okV vars met v = true then varsOk vars (met ++ [v]) r else none
def blksOk (vars : Int) : List Int → List Blk → Option (List Int)
  | met, [] => some met
  | met, b :: r => match varsOk vars met b.2 with
    | none => none
    | some m => blksOk vars m r
/-- The first block with a variable that may not stand there. -/
def blksBad (vars : Int) : Nat → List Int → List Blk → Option Nat
  | _, _, [] => none
  | i, met, b :: r => match varsOk vars met b.2 with
    | none => some i
    | some m => blksBad vars (i + 1) m r
theorem bad_none (vars : Int) : ∀ (bs : List Blk) (i : Nat) (met : List Int), blksBad vars i met bs = none → ∃ m, blksOk vars met bs = some m
  | [], i, met => fun _ => ⟨met, rfl⟩
  | b :: r, i, met => fun h => by
    unfold blksBad at h
    unfold blksOk
    cases hv : varsOk vars met b.2 with
    | none => rw [hv] at h; cases h
    | some m => rw [hv] at h; exact bad_none vars r (i + 1) m h
theorem varsOk_met (vars : Int) : ∀ (l met m : List Int), varsOk vars met l = some m → m = met ++ l ∧ ∀ v ∈ l, 1 ≤ v ∧ v ≤ vars
  | [], met, m => fun h => by
    unfold varsOk at h
    have := Option.some.inj h
    exact ⟨by simp [this], fun v hv => by cases hv⟩
  | v :: r, met, m => fun h => by
    unfold varsOk at h
    by_cases hk : okV vars met v = true
    · rw [if_pos hk] at h
      obtain ⟨h1, h2⟩ := varsOk_met vars r _ _ h
      refine ⟨by rw [h1]; simp, fun y hy => ?_⟩
      rcases List.mem_cons.1 hy with rfl | hy
      · unfold okV at hk
        simp at hk
        exact ⟨hk.1, hk.2.1⟩
      · exact h2 y hy
    · rw [if_neg hk] at h; cases h
theorem blksOk_met (vars : Int) : ∀ (bs : List Blk) (met m : List Int), blksOk vars met bs = some m → m = met ++ bs.flatMap (·.2) ∧ ∀ b ∈ bs, ∀ v ∈ b.2, 1 ≤ v ∧ v ≤ vars
  | [], met, m => fun h => by
    unfold blksOk at h
    have := Option.some.inj h
    exact ⟨by simp [this], fun v hv => by cases hv⟩
  | b :: r, met, m => fun h => by
    unfold blksOk at h
    cases hv : varsOk vars met b.2 with
    | none => rw [hv] at h; cases h
    | some m' =>
      rw [hv] at h
      obtain ⟨h1, h2⟩ := varsOk_met vars _ _ _ hv
      obtain ⟨h3, h4⟩ := blksOk_met vars r _ _ h
      refine ⟨by rw [h3, h1]; simp, fun c hc => ?_⟩
      rcases List.mem_cons.1 hc with rfl | hc
      · exact h2
      · exact h4 c hc

end Go.Proofs.YtcodmijphejfdaaDoor
