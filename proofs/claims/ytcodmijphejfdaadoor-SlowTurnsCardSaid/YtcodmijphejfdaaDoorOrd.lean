/- The contract of slices.SortFunc by slow.shorter: the masks in another order. Conditions: those typed. -/
import Derived.Test.YtcodmijphejfdaaDoorShr
import Derived.Test.YtcodmijphejfdaaDoorShelfQ
namespace Go.Proofs.YtcodmijphejfdaaDoor
open Go.RowKit Go.Lib Go.Sort Go.Shelf

theorem ltM (f : Nat × Nat → Int) (a b : Nat × Nat) : ltOf (cfM f) a b = decide (f a < f b ∨ (f a = f b ∧ (a.1 < b.1 ∨ (a.1 = b.1 ∧ a.2 < b.2)))) := by
  unfold ltOf cfM or3
  apply decide_eq_decide.2
  rcases compare_cases (f a) (f b) with ⟨h1, e1⟩ | ⟨h1, e1⟩ | ⟨h1, e1⟩ <;> rcases compare_cases (a.1 : Int) (b.1 : Int) with ⟨h2, e2⟩ | ⟨h2, e2⟩ | ⟨h2, e2⟩ <;> rcases compare_cases (a.2 : Int) (b.2 : Int) with ⟨h3, e3⟩ | ⟨h3, e3⟩ | ⟨h3, e3⟩ <;> rw [e1, e2, e3] <;> simp <;> omega
theorem swoM (f : Nat × Nat → Int) : SWO (ltOf (cfM f)) where
  irrefl x := by rw [ltM]; simp
  trans x y z h1 h2 := by rw [ltM] at *; simp at *; omega
  ntrans x y z h1 h2 := by rw [ltM] at *; simp at *; omega
def encM (d : Nat × Nat) : List Value := [.int .i64 (d.1 : Int), .int .i64 (d.2 : Int)]
theorem cmpLaysM (blk off size : Nat) (w : World) : CmpLays Tryd.prog 60 #[] encM 2 (cfM ocM) blk off size w :=
  fun _ _ _ _ x y => shorter_any x.1 x.2 y.1 y.2 _
theorem sortM_any (blk off cap : Nat) (d : Array (Nat × Nat)) (w : World) (hH : HoldsK encM 2 w blk off d) (hblk : blk < w.heap.size) (hsz : d.size < 4611686018427387904) :
    Calls Tryd.prog 59 #[.slice (some ⟨blk, off, none⟩) d.size cap, .func (.func 60) #[] #[]] w fun e w' => e = .returned (.tuple #[]) ∧ ∃ d' n os, PermIn 0 d.size d d' ∧ w' = sortWorldK encM 2 w blk off n d' os := by
  have eg : ∀ args w, (callFunc 60 args).run Tryd.prog w = .ok (.enter 60 args) w := enters_of Tryd.func60 (by kernel_rfl) rfl
  have hcon := AnyQ.slices_SortFunc Tryd.sortCl 2 Tryd.isAgg104 Tryd.sizeOf104 encM (fun _ => rfl) (fun x v hv => by simp [encM] at hv; rcases hv with rfl | rfl <;> rfl) (cfM ocM) (swoM ocM) 60 #[] blk off cap d w eg (cmpLaysM blk off d.size w) hH hblk hsz
  refine hcon.mono ?_
  rintro e w' ⟨rfl, d', n, os, hp, _, rfl⟩
  exact ⟨rfl, d', n, os, hp, rfl⟩
end Go.Proofs.YtcodmijphejfdaaDoor
