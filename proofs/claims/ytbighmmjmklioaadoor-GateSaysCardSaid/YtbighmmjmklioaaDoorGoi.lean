/- The program's graph and the document's as 'GOp'; slices of clauses off a footprint ('OffC'). Conditions: those typed. -/
import Derived.Test.YtbighmmjmklioaaDoorGop
import Derived.Test.YtbighmmjmklioaaDoorClIG
namespace Go.Proofs.YtbighmmjmklioaaDoor
open Go.RowKit

def Sep (S : List Nat) : Prop := ∀ i ∈ S, i ≠ 1 ∧ i ≠ 0
def EnvP (A : Nat → Addr) (W : World) (S : List Nat) : Prop := Sents2 W A ∧ Sep S
theorem Sep.nil : Sep [] := fun i hi => by cases hi
theorem EnvP.later {A : Nat → Addr} {w W : World} {S S' : List Nat} (h : EnvP A w S) (hC : Chg S w W) (hF : Fresh w S S') : EnvP A W S' := by
  obtain ⟨⟨c1, c3⟩, hS⟩ := h
  have l1 := World.block_lt_of_cell? w _ c1
  have l3 := World.block_lt_of_cell? w _ c3
  refine ⟨⟨(hC.cell l1 fun hm => (hS _ hm).1 rfl).trans c1, (hC.cell l3 fun hm => (hS _ hm).2 rfl).trans c3⟩, fun i hi => ?_⟩
  rcases hF i hi with h | h
  · exact hS i h
  · simp only at l1 l3
    omega
theorem gopP (A : Nat → Addr) (v : Value) : GOp (fun W S g => GrM W A v S g) (EnvP A) v 35 64 where
  kind := grKind A v
  len := fun h => by obtain ⟨p, m, u, N, D, h⟩ := h; exact h.len
  and := fun hE hG a b ha hb => gand_any _ hG hE.1 a b ha hb
  inp := fun hE hG i hi => gin_any _ hG hE.1 i hi
  env := fun h hC hF => h.later hC hF

theorem gopR (v : Value) : GOp (fun W S g => RgM W v S g) (fun _ _ => True) v 48 52 where
  kind := rgKind v
  len := fun h => by obtain ⟨p, u, h⟩ := h; exact h.len
  and := fun _ hG a b ha hb => rand_any _ hG a b ha hb
  inp := fun _ hG i hi => rin_any _ hG i hi.1 hi.2
  env := fun _ _ _ => trivial

theorem allG_bd {g : Gr} (h : g.len ≤ 8000) (ls : List Int) : 0 ≤ (allG g ls).2 ∧ (allG g ls).2 ≤ 16001 ∧ (allG g ls).1.len ≤ 8000 := by
  have key : ∀ (ls : List Int) (s : Gr × Int), (0 ≤ s.2 ∧ s.2 ≤ 16001 ∧ s.1.len ≤ 8000) → 0 ≤ (ls.foldl stepAll s).2 ∧ (ls.foldl stepAll s).2 ≤ 16001 ∧ (ls.foldl stepAll s).1.len ≤ 8000 := by
    intro ls
    induction ls with
    | nil => intro s h; exact h
    | cons x ls ih => intro s h; exact ih _ (andG_bd h.2.2 s.2 x)
  exact key ls (g, 1) ⟨by simp, by simp, h⟩
theorem map_snoc (ls : List Int) (k : Nat) (hk : k < ls.length) : (ls.take (k + 1)).map notI = (ls.take k).map notI ++ [notI (ls.getD k 0)] := by
  rw [List.take_succ_eq_append_getElem hk, List.map_append]; simp [List.getD, hk]
theorem GIn.rebase {G : World → List Nat → Gr → Prop} {E : World → List Nat → Prop} {S : List Nat} {g : Gr} {v : Value} {fA fI : Nat} (H : GOp G E v fA fI) {w W W' : World} (hE : E w S) (h : GIn G w S g W) (hb : Below W.heap.size W W') : ∃ S', E W' S' ∧ GIn G W' S' g W' ∧ (∀ i ∈ S', i < W.heap.size) ∧ ∀ g' W'', GIn G W' S' g' W'' → GIn G w S g' W'' := by
  have hk := h.keep H.kind hb
  obtain ⟨⟨S', hG, hF⟩, hC⟩ := h
  have hC' : Chg S w W' := hk.2
  refine ⟨S', H.env hE hC' hF, GIn.refl (H.kind.keep hG (Chg.of_below (S := []) hb) (by simp)), fun i hi => H.kind.lt hG i hi, fun g' W'' h' => ?_⟩
  obtain ⟨⟨S'', hG', hF'⟩, hC''⟩ := h'
  exact ⟨⟨S'', hG', hF.trans hF' hC'.size⟩, hC'.trans hC'' hF⟩

/-- A slice of clauses is off a footprint. -/
def OffC (w : World) (S : List Nat) (v : Value) (xss : List (List Int)) : Prop := ∃ a c, v = .slice a xss.length c ∧ xss.length ≤ c ∧ c ≤ maxLen ∧ (xss.length = 0 ∨ ∃ b off, a = some ⟨b, off, none⟩ ∧ b < w.heap.size ∧ b ∉ S ∧ ∀ i, i < xss.length → ∃ u, w.cell? ⟨b, off + i, none⟩ = some u ∧ OffI w S u (xss.getD i []))
theorem OffC.later {w W : World} {S S' : List Nat} {xss : List (List Int)} {u : Value} (h : OffC w S u xss) (hC : Chg S w W) (hF : Fresh w S S') : OffC W S' u xss := by
  obtain ⟨a, c, e, h1, h2, h3⟩ := h
  refine ⟨a, c, e, h1, h2, h3.imp id ?_⟩
  rintro ⟨b, off, ha, hb, hn, hc⟩
  refine ⟨b, off, ha, Nat.lt_of_lt_of_le hb hC.size, fun hm => (hF b hm).elim hn fun h' => absurd hb (Nat.not_lt.2 h'), fun i hi => ?_⟩
  obtain ⟨u, hu, ho⟩ := hc i hi
  exact ⟨u, (hC.cell hb hn).trans hu, ho.later hC hF⟩
theorem CRow.off {w : World} {B : Nat} {v : Value} {xss : List (List Int)} {S : List Nat} (h : CRow w B v xss) (hS : ∀ i ∈ S, i < B) : OffC w S v xss := by
  obtain ⟨c, vs, cur, h⟩ := h
  have ho := h.out
  rcases ho.2 with ⟨e0, e1⟩ | ⟨q, cap, cur', rfl, hB, hh, h1, h2, _⟩
  · exact ⟨none, 0, by rw [e0, e1], by omega, by unfold maxLen; omega, .inl e1⟩
  · refine ⟨_, cap, rfl, h1, h2, .inr ⟨q, 0, rfl, (ho.lt q rfl).2, fun hm => absurd (hS _ hm) (Nat.not_lt.2 hB), fun i hi => ?_⟩⟩
    obtain ⟨u, hu, hown, _⟩ := h.each i hi
    have hcell := ho.cells (g := q) rfl i u hu
    refine ⟨u, ?_, OffI.of_own hown hS⟩
    rw [Nat.zero_add]
    rwa [show (⟨q, 0, none⟩ : Addr).add i = ⟨q, i, none⟩ by unfold Addr.add; split <;> simp_all] at hcell
end Go.Proofs.YtbighmmjmklioaaDoor
