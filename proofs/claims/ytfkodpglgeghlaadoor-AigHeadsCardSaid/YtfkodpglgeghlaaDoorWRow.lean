/- Words in memory, as they are read ('WRow'); skolemlaw3.first answers true. No conditions beyond those typed. -/
import Derived.Test.YtfkodpglgeghlaaDoorSplit
import Derived.Lib.SlBytesConst
import Derived.Laws.IdiomStrings
namespace Go.Proofs.YtfkodpglgeghlaaDoor
open Go.RowKit

abbrev Wd := List Int × Nat × Bool
def wd0 : Wd := ([], 0, false)
structure WCells (w : World) (g : Nat) (ws : List Wd) : Prop where
  sq : g < w.heap.size
  text : ∀ i, i < ws.length → w.cell? ⟨g, i * 3, none⟩ = some (.string (strOfNums (ws.getD i wd0).1))
  pos : ∀ i, i < ws.length → w.cell? ⟨g, i * 3 + 1, none⟩ = some (.int .i64 (ws.getD i wd0).2.1)
  fst : ∀ i, i < ws.length → w.cell? ⟨g, i * 3 + 2, none⟩ = some (.bool (ws.getD i wd0).2.2)
theorem WCells.keep {w w' : World} {g : Nat} {ws : List Wd} (h : WCells w g ws) (hb : Below w.heap.size w w') : WCells w' g ws where
  sq := Nat.lt_of_lt_of_le h.sq hb.size
  text := fun i hi => (hb.cell (p := ⟨g, i * 3, none⟩) h.sq).trans (h.text i hi)
  pos := fun i hi => (hb.cell (p := ⟨g, i * 3 + 1, none⟩) h.sq).trans (h.pos i hi)
  fst := fun i hi => (hb.cell (p := ⟨g, i * 3 + 2, none⟩) h.sq).trans (h.fst i hi)
/-- The value v is a slice of words that reads as ws. -/
def WRow (w : World) (v : Value) (ws : List Wd) : Prop := ∃ a c, v = .slice a ws.length c ∧ ws.length ≤ c ∧ c ≤ maxLen ∧ (ws.length = 0 ∨ ∃ g, a = some ⟨g, 0, none⟩ ∧ WCells w g ws)
theorem WRow.keep {w w' : World} {v : Value} {ws : List Wd} (h : WRow w v ws) (hb : Below w.heap.size w w') : WRow w' v ws := by
  obtain ⟨a, c, e, h1, h2, h3⟩ := h
  refine ⟨a, c, e, h1, h2, ?_⟩
  rcases h3 with h3 | ⟨g, e, h3⟩
  · exact .inl h3
  · exact .inr ⟨g, e, h3.keep hb⟩
theorem flat_get : ∀ (ws : List Wd) (i j : Nat), i < ws.length → j < 3 → (ws.flatMap wcells)[i * 3 + j]? = (wcells (ws.getD i wd0))[j]?
  | [], i, j, h, _ => by simp at h
  | x :: ws, 0, j, _, hj => by
    rw [List.flatMap_cons, List.getElem?_append_left (by simp [wcells]; omega)]
    simp
  | x :: ws, i + 1, j, h, hj => by
    have ih := flat_get ws i j (by simpa using h) hj
    rw [List.flatMap_cons, List.getElem?_append_right (by simp [wcells]; omega)]
    rw [show (i + 1) * 3 + j - (wcells x).length = i * 3 + j by simp [wcells]; omega, ih]
    simp
theorem own_wrow {w : World} {B : Nat} {e : TypeId} {v : Value} {ws : List Wd} (h : w.ownsRow B e 3 v ws.length (ws.flatMap wcells)) : WRow w v ws := by
  have hlt := h.lt
  have hcs := fun g hg => h.cells (g := g) hg
  rcases h.2 with ⟨e0, e1⟩ | ⟨g, cap, cur, hv, hb, hg, hn, hm, hs, ht⟩
  · exact ⟨none, 0, by rw [e0, e1], by omega, by unfold maxLen; omega, .inl e1⟩
  · subst hv
    have ha : ∀ k, (⟨g, 0, none⟩ : Addr).add k = ⟨g, k, none⟩ := fun k => by unfold Addr.add; split <;> simp_all
    have hget : ∀ i j u, i < ws.length → j < 3 → (wcells (ws.getD i wd0))[j]? = some u → w.cell? ⟨g, i * 3 + j, none⟩ = some u := fun i j u hi hj hu => by
      have := hcs g rfl (i * 3 + j) u (by rw [flat_get ws i j hi hj]; exact hu)
      rwa [ha] at this
    exact ⟨_, cap, rfl, hn, hm, .inr ⟨g, rfl, (hlt g rfl).2, fun i hi => hget i 0 _ hi (by omega) rfl, fun i hi => hget i 1 _ hi (by omega) rfl, fun i hi => hget i 2 _ hi (by omega) rfl⟩⟩
theorem split_row (v : Value) (xs : List Int) (cm : Bool) (w : World) (hv : RowG (Value.int .u8) 0 w v xs) (hb : Bts xs) (hn : xs.length ≤ 4000000) :
    Calls Tryd.prog 39 #[v, .bool cm] w fun e w' => (∃ u, e = .returned u ∧ WRow w' u (wordsL cm xs)) ∧ Below w.heap.size w w' :=
  (split_any v xs cm w hv hb hn).mono fun _ _ ⟨u, he, ho, hb⟩ => ⟨⟨u, he, own_wrow ho⟩, hb⟩

theorem words_ab : wordsL false [97, 32, 98] = [([97], 0, true), ([98], 2, false)] := by
  unfold wordsL
  rw [splitL_word false 0 true false 97 [32, 98] (by decide)]
  rw [show ([32, 98] : List Int).takeWhile inW = [] from rfl, show ([32, 98] : List Int).dropWhile inW = [32, 98] from rfl, splitL_blank false _ _ _ 32 [98] (by decide), splitL_word false _ _ _ 98 [] (by decide)]
  rw [show ([] : List Int).dropWhile inW = [] from rfl, splitL_nil]
  rfl

theorem wr_ab {w : World} {v : Value} (h : WRow w v [([97], 0, true), ([98], 2, false)]) : ∃ g c, v = .slice (some ⟨g, 0, none⟩) 2 c ∧ 2 ≤ c ∧ w.cell? ⟨g, 4, none⟩ = some (.int .i64 2) ∧ w.cell? ⟨g, 2, none⟩ = some (.bool true) ∧ w.cell? ⟨g, 5, none⟩ = some (.bool false) := by
  obtain ⟨a, c, rfl, h1, _, h3⟩ := h
  obtain ⟨g, rfl, hc⟩ := h3.resolve_left (by simp)
  exact ⟨g, c, rfl, h1, hc.pos 1 (by decide), hc.fst 0 (by decide), hc.fst 1 (by decide)⟩

end Go.Proofs.YtfkodpglgeghlaaDoor
