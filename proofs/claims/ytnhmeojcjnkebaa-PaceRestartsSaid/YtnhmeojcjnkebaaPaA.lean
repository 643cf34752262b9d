/- A pace in memory ('PcS'); the contracts of its ring's next and of even. No conditions beyond those typed. -/
import Derived.Test.YtnhmeojcjnkebaaBase
import Derived.Test.YtnhmeojcjnkebaaChg
import Derived.Test.YtnhmeojcjnkebaaOwS
import Derived.Test.YtnhmeojcjnkebaaGen
import Derived.Lib.Hide
set_option linter.unusedVariables false
set_option linter.unusedSimpArgs false
namespace Go.Proofs.Ytnhmeojcjnkebaa
open Go.RowKit

/-- The pace in the block g: its ring of restarts, the next one's place, the budget, how many came, how many since, how many it takes. -/
structure PcS (B : Nat) (W : World) (g : Nat) (a : Option Addr) (c : Nat) (rs : List Int) (pl : Nat) (bud came since least : Int) : Prop where
  c0 : W.cell? ⟨g, 0, none⟩ = some (.slice a rs.length c)
  c1 : W.cell? ⟨g, 1, none⟩ = some (.int .i64 (pl : Int))
  c8 : W.cell? ⟨g, 8, none⟩ = some (.int .i64 bud)
  c9 : W.cell? ⟨g, 9, none⟩ = some (.int .i64 came)
  c10 : W.cell? ⟨g, 10, none⟩ = some (.int .i64 since)
  c11 : W.cell? ⟨g, 11, none⟩ = some (.int .i64 least)
  fr : ∀ k, W.frozen? ⟨g, k, none⟩ = false
  gB : B ≤ g
  gl : g < W.heap.size
  own : W.ownsRow B 3 1 (.slice a rs.length c) rs.length (rs.map (Value.int .i64))
  ne : (Value.slice a rs.length c).ownBlock ≠ some g
  at_ : rs.length = 0 ∨ pl < rs.length
  len : rs.length ≤ 1000000
theorem below_drs {w w' : World} (h : ∃ k, w' = w.drewN k) : Below w.heap.size w w' := by
  obtain ⟨k, rfl⟩ := h
  exact ⟨rfl, rfl, rfl, Nat.le_refl _, fun _ _ => rfl⟩
section
variable {B : Nat} {W W' : World} {g : Nat} {a : Option Addr} {c : Nat} {rs : List Int} {pl : Nat} {bud came since least : Int}
/-- A cell of the pace is stored into. -/
theorem PcS.off (h : PcS B W g a c rs pl bud came since least) (k : Nat) (u : Value) : (W.setCell ⟨g, k, none⟩ u).ownsRow B 3 1 (.slice a rs.length c) rs.length (rs.map (Value.int .i64)) ∧ Chg [g] W (W.setCell ⟨g, k, none⟩ u) := by
  have hc : Chg [g] W (W.setCell ⟨g, k, none⟩ u) := (Chg.refl [g] W).setCell (.inl (by simp)) _
  exact ⟨own_chg h.own hc fun q hq hm => by simp at hm; subst hm; exact h.ne hq, hc⟩
theorem PcS.set1 (h : PcS B W g a c rs pl bud came since least) (n : Nat) (hn : rs.length = 0 ∨ n < rs.length) : PcS B (W.setCell ⟨g, 1, none⟩ (.int .i64 (n : Int))) g a c rs n bud came since least ∧ Chg [g] W (W.setCell ⟨g, 1, none⟩ (.int .i64 (n : Int))) := by
  obtain ⟨ho, hc⟩ := h.off 1 (.int .i64 (n : Int))
  exact ⟨⟨(set_off (.inr (by decide))).trans h.c0, set_at h.c1, (set_off (.inr (by decide))).trans h.c8, (set_off (.inr (by decide))).trans h.c9, (set_off (.inr (by decide))).trans h.c10, (set_off (.inr (by decide))).trans h.c11, fun k => set_fr (h.fr k), h.gB, Nat.lt_of_lt_of_le h.gl hc.size, ho, h.ne, hn, h.len⟩, hc⟩
theorem PcS.set9 (h : PcS B W g a c rs pl bud came since least) (n : Int) : PcS B (W.setCell ⟨g, 9, none⟩ (.int .i64 n)) g a c rs pl bud n since least ∧ Chg [g] W (W.setCell ⟨g, 9, none⟩ (.int .i64 n)) := by
  obtain ⟨ho, hc⟩ := h.off 9 (.int .i64 n)
  exact ⟨⟨(set_off (.inr (by decide))).trans h.c0, (set_off (.inr (by decide))).trans h.c1, (set_off (.inr (by decide))).trans h.c8, set_at h.c9, (set_off (.inr (by decide))).trans h.c10, (set_off (.inr (by decide))).trans h.c11, fun k => set_fr (h.fr k), h.gB, Nat.lt_of_lt_of_le h.gl hc.size, ho, h.ne, h.at_, h.len⟩, hc⟩
theorem PcS.set10 (h : PcS B W g a c rs pl bud came since least) (n : Int) : PcS B (W.setCell ⟨g, 10, none⟩ (.int .i64 n)) g a c rs pl bud came n least ∧ Chg [g] W (W.setCell ⟨g, 10, none⟩ (.int .i64 n)) := by
  obtain ⟨ho, hc⟩ := h.off 10 (.int .i64 n)
  exact ⟨⟨(set_off (.inr (by decide))).trans h.c0, (set_off (.inr (by decide))).trans h.c1, (set_off (.inr (by decide))).trans h.c8, (set_off (.inr (by decide))).trans h.c9, set_at h.c10, (set_off (.inr (by decide))).trans h.c11, fun k => set_fr (h.fr k), h.gB, Nat.lt_of_lt_of_le h.gl hc.size, ho, h.ne, h.at_, h.len⟩, hc⟩
theorem PcS.set11 (h : PcS B W g a c rs pl bud came since least) (n : Int) : PcS B (W.setCell ⟨g, 11, none⟩ (.int .i64 n)) g a c rs pl bud came since n ∧ Chg [g] W (W.setCell ⟨g, 11, none⟩ (.int .i64 n)) := by
  obtain ⟨ho, hc⟩ := h.off 11 (.int .i64 n)
  exact ⟨⟨(set_off (.inr (by decide))).trans h.c0, (set_off (.inr (by decide))).trans h.c1, (set_off (.inr (by decide))).trans h.c8, (set_off (.inr (by decide))).trans h.c9, (set_off (.inr (by decide))).trans h.c10, set_at h.c11, fun k => set_fr (h.fr k), h.gB, Nat.lt_of_lt_of_le h.gl hc.size, ho, h.ne, h.at_, h.len⟩, hc⟩
theorem PcS.keep (h : PcS B W g a c rs pl bud came since least) (hb : Below W.heap.size W W') : PcS B W' g a c rs pl bud came since least := by
  have hc : Chg [] W W' := Chg.of_below (S := []) hb
  have hg := hb.block g h.gl
  have hcl : ∀ k, W'.cell? ⟨g, k, none⟩ = W.cell? ⟨g, k, none⟩ := fun k => World.cell?_of_block (a := ⟨g, k, none⟩) hg
  have hfr : ∀ k, W'.frozen? ⟨g, k, none⟩ = W.frozen? ⟨g, k, none⟩ := fun k => by unfold World.frozen?; rw [hg]
  exact ⟨(hcl 0).trans h.c0, (hcl 1).trans h.c1, (hcl 8).trans h.c8, (hcl 9).trans h.c9, (hcl 10).trans h.c10, (hcl 11).trans h.c11, fun k => (hfr k).trans (h.fr k), h.gB, Nat.lt_of_lt_of_le h.gl hb.size, own_chg h.own hc (by simp), h.ne, h.at_, h.len⟩
/-- What next answers, and leaves. -/
def NxR (B : Nat) (w : World) (g : Nat) (a : Option Addr) (c : Nat) (rs : List Int) (bud came since least : Int) (e : Ending) (w' : World) : Prop :=
  ∃ (x : Int) (pl : Nat), e = .returned (.int .i64 x) ∧ -9223372036854775808 ≤ x ∧ x ≤ 9223372036854775807 ∧ PcS B w' g a c rs pl bud came since least ∧ Chg [g] w w'
end

set_option maxRecDepth 8000 in
set_option maxHeartbeats 2000000 in
theorem even_any (x : Int) (w : World) (h1 : -9223372036854775808 ≤ x) (h2 : x ≤ 9223372036854775807) :
    Calls Try.prog 14 #[.int .i64 x] w fun e w' => ∃ b, e = .returned (.bool b) ∧ w = w' := by
  have h3 : -2 < x.tmod 2 := Int.lt_tmod_of_pos x (by decide)
  have h4 : x.tmod 2 < 2 := Int.tmod_lt_of_pos x (by decide)
  go_enter Try.func14, Try.ntmps14
  go_wp2_with fail
  go_ret
  exact ⟨_, rfl, rfl⟩

set_option maxRecDepth 8000 in
set_option maxHeartbeats 4000000 in
theorem next_any {B g : Nat} {a : Option Addr} {c : Nat} {rs : List Int} {pl : Nat} {bud came since least : Int} (w : World) (h : PcS B w g a c rs pl bud came since least) (hi : ∀ x ∈ rs, -9223372036854775808 ≤ x ∧ x ≤ 9223372036854775807) :
    Calls Try.prog 15 #[.pointer (some ⟨g, 0, none⟩)] w (NxR B w g a c rs bud came since least) := by
  have H := Lib.hid h
  have HI := Lib.hid hi
  have c0 := h.c0
  have c1 := h.c1
  have f1 := h.fr 1
  have hlen := h.len
  unfold NxR
  rcases Nat.eq_zero_or_pos rs.length with h0 | h0
  · have hr : rs = [] := List.eq_nil_of_length_eq_zero h0
    subst hr
    simp only [List.length_nil] at c0 h0 ⊢
    clear h hi h0 hlen
    go_enter Try.func15, Try.ntmps15
    go_wp2_with fail
    go_ret
    exact ⟨0, pl, rfl, by decide, by decide, H.out, Chg.refl _ _⟩
  · have hpl : pl < rs.length := h.at_.resolve_left (by omega)
    have hown := h.own
    obtain ⟨b, off, ha, hbl, hcell⟩ : ∃ b off, a = some ⟨b, off, none⟩ ∧ b < w.heap.size ∧ ∀ j, j < rs.length → w.cell? ⟨b, off + j, none⟩ = some (.int .i64 (rs.getD j 0)) := by
      obtain ⟨a', c', e, _, _, h3⟩ := own_row hown
      injection e with e1 _ _
      subst e1
      exact h3.resolve_left (by omega)
    subst ha
    have y0 := hcell pl hpl
    have hx := hi (rs.getD pl 0) (by simp [List.getD, hpl])
    have HN : Hid (rs.length = 0 ∨ (pl + 1) % rs.length < rs.length) := .inr (Nat.mod_lt _ h0)
    have n0 : ((rs.length : Int) == 0) = false := by rw [beq_eq_false_iff_ne]; omega
    clear h hi hown hcell
    generalize rs.getD pl 0 = x at *
    generalize hL : rs.length = L at *
    have HL := Lib.hid hL
    clear hL
    have c0d : w.drew.cell? ⟨g, 0, none⟩ = some (.slice (some ⟨b, off, none⟩) L c) := c0
    have c1d : w.drew.cell? ⟨g, 1, none⟩ = some (.int .i64 (pl : Int)) := c1
    have y0d : w.drew.cell? ⟨b, off + pl, none⟩ = some (.int .i64 x) := y0
    go_enter Try.func15, Try.ntmps15
    go_wp2_with fail
    go_region
    go_wp2_with fail
    go_region
    go_wp2_with fail
    go_ret
    have hc : ((pl : Int) + 1) % (L : Int) = (((pl + 1) % L : Nat) : Int) := by simp
    obtain ⟨k1, k2⟩ := H.out.set1 ((pl + 1) % L) (by rw [HL.out]; exact HN.out)
    refine ⟨x, (pl + 1) % L, rfl, hx.1, hx.2, ?_, ?_⟩ <;> rw [hc]
    · exact k1.keep (below_drs ⟨2, rfl⟩)
    · exact k2.trans (Chg.of_below (below_drs ⟨2, rfl⟩)) (Fresh.refl _ _)
end Go.Proofs.Ytnhmeojcjnkebaa
