/- slices.Insert at []byte ahead of the end: in place where there is room, else a new row. Conditions: both slices are the call's own, in blocks of their own, and short. -/
import Derived.Test.YtfoohdknjacenaaDoorInsert
import Derived.ChangeKeysEq
namespace Go.Proofs.YtfoohdknjacenaaDoor
open Go.RowKit Go.Lib

theorem sizeU8 (w : World) : (Go.sizeOf 5).run Tryd.prog w = .ok 1 w := by
  obtain ⟨i0, hi, _, h1, _⟩ := info_parts infoU8
  have := run_sizeOf (w := w) hi
  rwa [show Tryd.prog.cellsOf 5 = 1 by kernel_rfl] at this
theorem shape_blk {w : World} {b : Nat} {cur : Array Value} {t : TypeId} {fz : Nat × Nat} (h : w.heap[b]? = some (.cells cur t fz)) : w.shape? b = some (t, cur.size) := by simp [World.shape?, h]
theorem froz_blk {w : World} {b o : Nat} {cur : Array Value} {t : TypeId} (h : w.heap[b]? = some (.cells cur t (0, 0))) : w.frozen? ⟨b, o, none⟩ = false := by simp [World.frozen?, h]
theorem u8_one (xs : List Int) : ∀ v ∈ xs.map (Value.int .u8), v.oneCell' = true := fun v hv => by
  obtain ⟨x, _, rfl⟩ := List.mem_map.1 hv
  rfl

set_option maxHeartbeats 4000000 in
set_option maxRecDepth 100000 in
/-- There is room: in place. -/
theorem ins_shift (b n c i vb m vc : Nat) (cs vs : List Value) (w : World) (hi : i < n) (hm : 0 < m) (hroom : n + m ≤ c) (hc63 : c ≤ 9223372036854775807) (hvb : vb ≠ b) (hcl : cs.length = n) (hvl : vs.length = m)
    (hcs : ∀ j v, cs[j]? = some v → w.cell? ⟨b, j, none⟩ = some v) (hsp : ∀ j, j < n + m → (w.cell? ⟨b, j, none⟩).isSome = true) (hfz : ∀ j, w.frozen? ⟨b, j, none⟩ = false)
    (hvs : ∀ j v, vs[j]? = some v → w.cell? ⟨vb, j, none⟩ = some v) (h1c : ∀ v ∈ cs, v.oneCell' = true) (h1v : ∀ v ∈ vs, v.oneCell' = true)
    (tA tB : TypeId) (kA kB : Nat) (hsa : w.shape? vb = some (tA, kA)) (hsb : w.shape? b = some (tB, kB)) (hkB : kB ≠ 0) (hfa : w.frozen? ⟨vb, 0, none⟩ = false) (hfe : w.frozen? ⟨vb, kA, none⟩ = false) :
    Calls Tryd.prog 25 #[.slice (some ⟨b, 0, none⟩) n c, .int .i64 i, .slice (some ⟨vb, 0, none⟩) m vc] w fun e w' =>
      e = .returned (.slice (some ⟨b, 0, none⟩) (n + m) c) ∧ w' = (w.drew.setCells b (i + m) (cs.drop i)).setCells b i vs := by
  have hsz : (Tryd.prog.info? 5).map (·.size) = some 1 := by
    obtain ⟨i0, hi0, _, h1, _⟩ := info_parts infoU8
    rw [hi0]; simp [h1]
  have hov : ∀ lb cb, (callFunc 40 #[.slice (some ⟨vb, 0, none⟩) m vc, .slice (some ⟨b, i + m, none⟩) lb cb]).run Tryd.prog w = .ok (.value (.bool false)) w := fun lb cb => by
    rw [run_callFunc_extern Tryd.func40 (by kernel_rfl) (by kernel_rfl) (by kernel_rfl) (e := Extern.SlicesOverlaps.overlaps #[34, 34] #[4]) (by kernel_rfl),
      Lib.run_overlaps_apart w 34 4 5 Tryd.underlying34 1 sizeU8 ⟨vb, 0, none⟩ ⟨b, i + m, none⟩ m vc lb cb hvb tA tB kA kB hsa hsb hkB hfa hfe]
    rfl
  have hdl : (cs.drop i).length = n - i := by rw [List.length_drop, hcl]
  have hz1 : ¬ ((m : Int) = 0) := by omega
  have hz2 : ¬ ((i : Int) = (n : Int)) := by omega
  have hz3 : decide ((c : Int) < (n : Int) + (m : Int)) = false := by simp; omega
  have hw1 : IntKind.i64.wrap ((i : Int) + (m : Int)) = (i : Int) + (m : Int) := by rw [IntKind.wrap_i64]; omega
  have hb1 : (0 : Int) ≤ (i : Int) + (m : Int) := by omega
  have hin : i ≤ n := by omega
  have htn : ((i : Int) + (m : Int)).toNat = i + m := by omega
  have hb2 : ¬ (c = i + m) := by omega
  have hb3 : (i : Int) ≤ (n : Int) + (m : Int) := by omega
  have hb4 : ¬ (c = i) := by omega
  have hcp1 : ∀ ty dc sc, (Builtin.copy_ #[34, 34] ty #[.slice (some ⟨b, i + m, none⟩) (n + m - (i + m)) dc, .slice (some ⟨b, i, none⟩) (n + m - i) sc]).run Tryd.prog w.drew = .ok (goInt (cs.drop i).length) (w.drew.setCells b (i + m) (cs.drop i)) := fun ty dc sc =>
    run_copy_cells w.drew _ _ ty 5 b (i + m) (n + m - (i + m)) dc ⟨b, i, none⟩ (n + m - i) sc (cs.drop i) Tryd.underlying34 hsz (by rw [hdl]; simp only [Nat.min_def]; split <;> omega)
      (fun j v hj => by rw [Addr.add_lit]; exact hcs (i + j) v (by rwa [List.getElem?_drop] at hj))
      (fun j hj => hsp _ (by omega)) (fun j hj => hfz _) (fun v hv => h1c v (List.mem_of_mem_drop hv))
  obtain ⟨W1, hW1⟩ : ∃ W1, W1 = w.drew.setCells b (i + m) (cs.drop i) := ⟨_, rfl⟩
  have hsp1 : ∀ k, k < n + m → (W1.cell? ⟨b, k, none⟩).isSome = true := fun k hk => by
    rw [hW1]
    exact Go.Proofs.isSome_setCells b (cs.drop i) (i + m) w.drew (fun j hj => hsp (i + m + j) (by omega)) k (hsp k hk)
  have hcp2 : ∀ (W : World), (∀ x, W.cell? x = W1.cell? x) → (∀ x, W.frozen? x = W1.frozen? x) → ∀ ty dc, (Builtin.copy_ #[34, 34] ty #[.slice (some ⟨b, i, none⟩) (n + m - i) dc, .slice (some ⟨vb, 0, none⟩) m vc]).run Tryd.prog W = .ok (goInt vs.length) (W.setCells b i vs) := fun W hWc hWf ty dc =>
    run_copy_cells W _ _ ty 5 b i (n + m - i) dc ⟨vb, 0, none⟩ m vc vs Tryd.underlying34 hsz (by rw [hvl]; simp only [Nat.min_def]; split <;> omega)
      (fun j v hj => by
        rw [Addr.add_lit, hWc, hW1, World.cell?_setCells_out b _ _ _ _ (fun h _ => absurd h hvb), Nat.zero_add]
        exact hvs j v hj)
      (fun j hj => by rw [hWc]; exact hsp1 _ (by omega)) (fun j hj => by rw [hWf, hW1, World.frozen?_setCells]; exact hfz _) h1v
  rw [← hW1] at hcp1
  go_enter Tryd.func25, Tryd.ntmps25
  go_wp2_with (simp only [hov])
  go_region_law (refine Go.Proofs.step_copy_runI rfl _ _ 34 34 rfl _ _ (by simp [Act.eval, Act.put]) (by simp [Act.eval, Act.put]) (hcp1 _ _ _) ?_)
  go_wp2_with (at_builtin; refine Go.Proofs.wpList_copy_runI _ rfl _ _ 34 34 rfl _ _ rfl rfl (hcp2 _ (fun _ => rfl) (fun _ => rfl) _ _) ?_)
  (try go_ret)
  first | exact ⟨rfl, rfl⟩ | exact ⟨rfl, by rw [hW1]⟩

set_option maxHeartbeats 4000000 in
set_option maxRecDepth 100000 in
/-- No room: a new row. -/
theorem ins_grow (b n c i vb m vc : Nat) (cs vs : List Value) (w : World) (hi : i < n) (hm : 0 < m) (hnc : n ≤ c) (hroom : c < n + m) (hbig : n + m ≤ 1000000) (hcl : cs.length = n) (hvl : vs.length = m)
    (hcs : ∀ j v, cs[j]? = some v → w.cell? ⟨b, j, none⟩ = some v) (hvs : ∀ j v, vs[j]? = some v → w.cell? ⟨vb, j, none⟩ = some v) (h1c : ∀ v ∈ cs, v.oneCell' = true) (h1v : ∀ v ∈ vs, v.oneCell' = true) :
    Calls Tryd.prog 25 #[.slice (some ⟨b, 0, none⟩) n c, .int .i64 i, .slice (some ⟨vb, 0, none⟩) m vc] w fun e w' =>
      e = .returned (.slice (some ⟨w.heap.size, 0, none⟩) (n + m) (grownCap w (n + m) c 5)) ∧
      w' = (((w.alloc (.cells ((cs.take i).toArray ++ Builtin.zeroCells (Value.int .u8 0).cells (n + m - i) ++ Builtin.zeroCells (Value.int .u8 0).cells (grownCap w (n + m) c 5 - (n + m))) 5)).drew.setCells w.heap.size i vs).drew).setCells w.heap.size (i + m) (cs.drop i) := by
  obtain ⟨i0, hi0, hz0, hzs, hzb⟩ := info_parts infoU8
  have hz1 : ¬ ((m : Int) = 0) := by omega
  have hz2 : ¬ ((i : Int) = (n : Int)) := by omega
  have hz3 : (c : Int) < (n : Int) + (m : Int) := by omega
  have hsz : (Tryd.prog.info? 5).map (·.size) = some 1 := by rw [hi0]; simp [hzs]
  have hbw : b < w.heap.size := World.block_lt_of_cell? w ⟨b, 0, none⟩ (hcs 0 _ (List.getElem?_eq_getElem (by omega)))
  have hvw : vb < w.heap.size := World.block_lt_of_cell? w ⟨vb, 0, none⟩ (hvs 0 _ (List.getElem?_eq_getElem (by omega)))
  have hkk : (n : Int) + (m : Int) - (i : Int) = ((n + m - i : Nat) : Int) := by omega
  have hik : i + (n + m - i) = n + m := by omega
  have hold : (Builtin.firstCells i0.size i (.slice (some ⟨b, 0, none⟩) i c)).run Tryd.prog w.drew = .ok (cs.take i).toArray w.drew := by
    rw [hzs]
    exact run_firstCells_some w.drew 1 i ⟨b, 0, none⟩ i c (cs.take i) (by rw [List.length_take]; omega) (fun j v hj => by
      rw [Addr.add_lit, Nat.zero_add]
      rw [List.getElem?_take] at hj
      split at hj
      · exact hcs j v hj
      · cases hj)
  have hrz : ∀ ty, (Builtin.append_ #[34, 3] ty #[.slice (some ⟨b, 0, none⟩) i c, .int .i64 ((n : Int) + (m : Int) - (i : Int))]).run Tryd.prog w =
      .ok (.slice (some ⟨w.heap.size, 0, none⟩) (n + m) (grownCap w (n + m) c 5)) (w.drew.alloc (.cells ((cs.take i).toArray ++ Builtin.zeroCells (Value.int .u8 0).cells (n + m - i) ++ Builtin.zeroCells (Value.int .u8 0).cells (grownCap w (n + m) c 5 - (n + m))) 5)) := fun ty => by
    have h := Lib.run_append_grow_zeros w 34 3 ty 5 i0 _ .i64 .i64 Tryd.underlying34 Tryd.underlying3 hi0 hz0 (some ⟨b, 0, none⟩) i c (cs.take i) hold (n + m - i) (by omega) (by omega) (by omega) (by omega) (by rw [hzb]; omega) (by rw [hzb, hik]; exact growslice_fits hroom (by omega))
    rw [hik] at h
    rw [hkk]
    exact h
  obtain ⟨G, hG⟩ : ∃ G, G = grownCap w (n + m) c 5 := ⟨_, rfl⟩
  obtain ⟨ROW, hROW⟩ : ∃ ROW : Array Value, ROW = (cs.take i).toArray ++ Builtin.zeroCells (Value.int .u8 0).cells (n + m - i) ++ Builtin.zeroCells (Value.int .u8 0).cells (G - (n + m)) := ⟨_, rfl⟩
  rw [← hG] at hrz ⊢
  rw [← hROW] at hrz ⊢
  have hRl : n + m ≤ ROW.size := by
    rw [hROW]
    simp [Builtin.zeroCells, Value.cells]
    omega
  obtain ⟨W1, hW1⟩ : ∃ W1, W1 = w.drew.alloc (.cells ROW 5) := ⟨_, rfl⟩
  rw [← hW1] at hrz
  have hN : ∀ j, j < n + m → (W1.cell? ⟨w.heap.size, j, none⟩).isSome = true := fun j hj => by
    rw [hW1, World.cell?_alloc_at (w := w.drew) ROW _ w.heap.size j rfl, Array.getElem?_eq_getElem (by omega)]; rfl
  have hNf : ∀ j, W1.frozen? ⟨w.heap.size, j, none⟩ = false := fun j => by rw [hW1]; exact World.frozen?_alloc_at (w := w.drew) ROW _ w.heap.size j rfl
  have hOb : ∀ j v, w.cell? ⟨b, j, none⟩ = some v → W1.cell? ⟨b, j, none⟩ = some v := fun j v h => by rw [hW1, World.cell?_alloc_lt w.drew _ ⟨b, j, none⟩ hbw]; exact h
  have hOv : ∀ j v, w.cell? ⟨vb, j, none⟩ = some v → W1.cell? ⟨vb, j, none⟩ = some v := fun j v h => by rw [hW1, World.cell?_alloc_lt w.drew _ ⟨vb, j, none⟩ hvw]; exact h
  have hcpA : ∀ (W : World), (∀ x, W.cell? x = W1.cell? x) → (∀ x, W.frozen? x = W1.frozen? x) → ∀ ty dc, (Builtin.copy_ #[34, 34] ty #[.slice (some ⟨w.heap.size, i, none⟩) (n + m - i) dc, .slice (some ⟨vb, 0, none⟩) m vc]).run Tryd.prog W = .ok (goInt vs.length) (W.setCells w.heap.size i vs) := fun W hWc hWf ty dc =>
    run_copy_cells W _ _ ty 5 w.heap.size i (n + m - i) dc ⟨vb, 0, none⟩ m vc vs Tryd.underlying34 hsz (by rw [hvl]; simp only [Nat.min_def]; split <;> omega)
      (fun j v hj => by rw [Addr.add_lit, Nat.zero_add, hWc]; exact hOv _ v (hvs j v hj))
      (fun j hj => by rw [hWc]; exact hN _ (by omega)) (fun j hj => by rw [hWf]; exact hNf _) h1v
  have hGn : n + m ≤ G := by rw [hG]; exact grownCap_ge w _ _ _
  have hG63 : G ≤ 9223372036854775807 := by
    have := grownCap_le_maxLen w (n + m) c 5 (by unfold maxLen; omega)
    rw [← hG] at this
    unfold maxLen at this
    omega
  have hGi : ¬ (G = i) := by omega
  have hGim : ¬ (G = i + m) := by omega
  have hci : ¬ (c = i) := by omega
  have hbN : b ≠ w.heap.size := by omega
  have hdl : (cs.drop i).length = n - i := by rw [List.length_drop, hcl]
  have hcpB : ∀ (W : World), (∀ x, W.cell? x = (W1.setCells w.heap.size i vs).cell? x) → (∀ x, W.frozen? x = (W1.setCells w.heap.size i vs).frozen? x) → ∀ ty dc sc, (Builtin.copy_ #[34, 34] ty #[.slice (some ⟨w.heap.size, i + m, none⟩) (n + m - (i + m)) dc, .slice (some ⟨b, i, none⟩) (n - i) sc]).run Tryd.prog W = .ok (goInt (cs.drop i).length) (W.setCells w.heap.size (i + m) (cs.drop i)) := fun W hWc hWf ty dc sc =>
    run_copy_cells W _ _ ty 5 w.heap.size (i + m) (n + m - (i + m)) dc ⟨b, i, none⟩ (n - i) sc (cs.drop i) Tryd.underlying34 hsz (by rw [hdl]; simp only [Nat.min_def]; split <;> omega)
      (fun j v hj => by
        rw [Addr.add_lit, hWc, World.cell?_setCells_out _ _ _ _ _ (fun h _ => absurd h hbN)]
        exact hOb _ v (hcs (i + j) v (by rwa [List.getElem?_drop] at hj)))
      (fun j hj => by rw [hWc]; exact Go.Proofs.isSome_setCells w.heap.size vs i W1 (fun t ht => hN (i + t) (by omega)) (i + m + j) (hN _ (by omega)))
      (fun j hj => by rw [hWf, World.frozen?_setCells]; exact hNf _) (fun v hv => h1c v (List.mem_of_mem_drop hv))
  subst hW1
  have hE1 : ∀ x, ((w.alloc (.cells ROW 5)).drew).cell? x = (w.drew.alloc (.cells ROW 5)).cell? x := fun x => rfl
  have hE2 : ∀ x, ((w.alloc (.cells ROW 5)).drew).frozen? x = (w.drew.alloc (.cells ROW 5)).frozen? x := fun x => rfl
  have hF1 : ∀ x, (((w.alloc (.cells ROW 5)).drew.setCells w.heap.size i vs).drew).cell? x = ((w.drew.alloc (.cells ROW 5)).setCells w.heap.size i vs).cell? x := fun x => rfl
  have hF2 : ∀ x, (((w.alloc (.cells ROW 5)).drew.setCells w.heap.size i vs).drew).frozen? x = ((w.drew.alloc (.cells ROW 5)).setCells w.heap.size i vs).frozen? x := fun x => rfl
  have hw1 : IntKind.i64.wrap ((i : Int) + (m : Int)) = (i : Int) + (m : Int) := by rw [IntKind.wrap_i64]; omega
  have hb1 : (0 : Int) ≤ (i : Int) + (m : Int) := by omega
  have hin : i ≤ n := by omega
  have htn : ((i : Int) + (m : Int)).toNat = i + m := by omega
  have hb3 : (i : Int) ≤ (n : Int) := by omega
  clear hkk hik hold hROW hG hRl
  go_enter Tryd.func25, Tryd.ntmps25
  go_wp2_with (first
    | (at_builtin; refine Lib.wpList_append_run _ rfl _ _ _ _ rfl _ _ rfl rfl _ _ (hrz _) ?_)
    | (at_builtin; refine Go.Proofs.wpList_copy_runI _ rfl _ _ 34 34 rfl _ _ rfl rfl (hcpA _ hE1 hE2 _ _) ?_))
  go_region_law (refine Go.Proofs.step_copy_runI rfl _ _ 34 34 rfl (.slice (some ⟨w.heap.size, i + m, none⟩) (n + m - (i + m)) (G - (i + m))) (.slice (some ⟨b, i, none⟩) (n - i) (c - i)) (by simp [Act.eval, Act.put]) (by simp [Act.eval, Act.put]) (hcpB _ hF1 hF2 3 (G - (i + m)) (c - i)) ?_)
  go_wp2
  (try go_ret)
  exact ⟨rfl, rfl⟩

/-- slices.Insert at []byte. -/
theorem insert_any (B i : Nat) (sv uv : Value) (xs ys : List Int) (w : World) (ho : w.ownsRow B 5 1 sv xs.length (xs.map (Value.int .u8))) (hu : w.ownsRow B 5 1 uv ys.length (ys.map (Value.int .u8))) (hd : ∀ g, uv.ownBlock = some g → sv.ownBlock ≠ some g) (hB : B ≤ w.heap.size) (hi : i ≤ xs.length) (hl : xs.length + ys.length ≤ 100000) :
    Calls Tryd.prog 25 #[sv, .int .i64 i, uv] w (InsPost B w i xs ys) := by
  rcases Nat.eq_zero_or_pos ys.length with h0 | h0
  · obtain rfl : ys = [] := List.eq_nil_of_length_eq_zero h0
    exact ins_none B i sv uv xs w ho hu hi
  by_cases hie : i = xs.length
  · subst hie
    exact ins_end B sv uv xs ys w ho hu h0 hB hl
  obtain ⟨b, c, cur, rfl, hb1, hb2, hb3, hb4, hb5, hb6, hb7, hb8⟩ := own_block ho (by omega)
  obtain ⟨vb, vc, cur2, rfl, hv1, hv2, hv3, hv4, hv5, hv6, hv7, hv8⟩ := own_block hu h0
  have hne : vb ≠ b := fun e => hd vb rfl (by rw [e]; rfl)
  have hlen : (xs.take i ++ ys ++ xs.drop i).length = xs.length + ys.length := by simp; omega
  have hmap : (xs.take i ++ ys ++ xs.drop i).map (Value.int .u8) = (xs.map (Value.int .u8)).take i ++ ys.map (Value.int .u8) ++ (xs.map (Value.int .u8)).drop i := by simp [List.map_take, List.map_drop]
  by_cases hroom : xs.length + ys.length ≤ c
  · refine (ins_shift b xs.length c i vb ys.length vc (xs.map (Value.int .u8)) (ys.map (Value.int .u8)) w (by omega) h0 hroom (by unfold maxLen at hb6; omega) hne (by simp) (by simp) hb8 (fun j hj => by rw [cell_of_row w b j cur _ (0, 0) hb3, Array.getElem?_eq_getElem (by omega)]; rfl) (fun j => froz_blk hb3) hv8 (u8_one xs) (u8_one ys) _ _ _ _ (shape_blk hv3) (shape_blk hb3) (by omega) (froz_blk hv3) (froz_blk hv3)).mono ?_
    rintro e w' ⟨rfl, rfl⟩
    have hbd : Below B w w.drew := (Below.refl _ _).drew
    refine ⟨⟨_, rfl, ?_⟩, below_sets hb1 _ _ (below_sets hb1 _ _ hbd)⟩
    obtain ⟨cur3, h3, h4⟩ := setCells_blk b ((xs.map (Value.int .u8)).drop i) (i + ys.length) w.drew cur _ _ hb3
    obtain ⟨cur4, h5, h6⟩ := setCells_blk b (ys.map (Value.int .u8)) i _ cur3 _ _ h3
    refine own_of_cells h5 (by omega) hb1 (by rw [List.length_map, hlen]) hroom hb6 ?_
    rw [hmap]
    intro j v hj
    have hsome : ∀ k, k < c → (w.drew.cell? ⟨b, k, none⟩).isSome = true := fun k hk => by
      show (w.cell? ⟨b, k, none⟩).isSome = true
      rw [cell_of_row w b k cur _ (0, 0) hb3, Array.getElem?_eq_getElem (by omega)]; rfl
    have hdl : ((xs.map (Value.int .u8)).drop i).length = xs.length - i := by simp
    have hsome2 : ∀ k, k < c → ((w.drew.setCells b (i + ys.length) ((xs.map (Value.int .u8)).drop i)).cell? ⟨b, k, none⟩).isSome = true := fun k hk => Go.Proofs.isSome_setCells b _ _ _ (fun j hj => hsome _ (by rw [hdl] at hj; omega)) k (hsome k hk)
    rcases ins_get _ _ i (by simp; omega) j v hj with ⟨h7, h8⟩ | ⟨h7, h8, h9⟩ | ⟨h7, h8⟩
    · rw [World.cell?_setCells_out b _ _ _ _ (fun _ _ => .inl h7), World.cell?_setCells_out b _ _ _ _ (fun _ _ => .inl (by show j < _; omega))]
      exact hb8 j v h8
    · have hjl : j - i < (ys.map (Value.int .u8)).length := by omega
      have := World.cell?_setCells_in b (ys.map (Value.int .u8)) i _ (fun k hk => hsome2 (i + k) (by simp at hk; omega)) (j - i) hjl
      rw [show i + (j - i) = j by omega] at this
      rw [this]
      rw [List.getElem?_eq_getElem hjl] at h9
      exact h9
    · have hjl : j - (i + ys.length) < ((xs.map (Value.int .u8)).drop i).length := by
        rcases Nat.lt_or_ge (j - (i + ys.length)) ((xs.map (Value.int .u8)).drop i).length with h | h
        · exact h
        · rw [List.length_map] at h8; rw [List.getElem?_eq_none h] at h8; cases h8
      rw [List.length_map] at h7 h8
      rw [World.cell?_setCells_out b _ _ _ _ (fun _ _ => .inr (by show _ ≤ j; rw [List.length_map]; exact h7))]
      have := World.cell?_setCells_in b ((xs.map (Value.int .u8)).drop i) (i + ys.length) w.drew (fun k hk => hsome (i + ys.length + k) (by rw [hdl] at hk; omega)) (j - (i + ys.length)) hjl
      rw [show i + ys.length + (j - (i + ys.length)) = j by omega] at this
      rw [this]
      rw [List.getElem?_eq_getElem hjl] at h8
      exact h8
  · refine (ins_grow b xs.length c i vb ys.length vc (xs.map (Value.int .u8)) (ys.map (Value.int .u8)) w (by omega) h0 hb5 (by omega) (by omega) (by simp) (by simp) hb8 hv8 (u8_one xs) (u8_one ys)).mono ?_
    rintro e w' ⟨rfl, rfl⟩
    have hGn := grownCap_ge w (xs.length + ys.length) c 5
    have hGm := grownCap_le_maxLen w (xs.length + ys.length) c 5 (by unfold maxLen; omega)
    generalize grownCap w (xs.length + ys.length) c 5 = G at *
    have hrs : (((xs.map (Value.int .u8)).take i).toArray ++ Builtin.zeroCells (Value.int .u8 0).cells (xs.length + ys.length - i) ++ Builtin.zeroCells (Value.int .u8 0).cells (G - (xs.length + ys.length))).size = G := by
      simp [Builtin.zeroCells, Value.cells]; omega
    have hrk : ∀ j, j < i → (((xs.map (Value.int .u8)).take i).toArray ++ Builtin.zeroCells (Value.int .u8 0).cells (xs.length + ys.length - i) ++ Builtin.zeroCells (Value.int .u8 0).cells (G - (xs.length + ys.length)))[j]? = (xs.map (Value.int .u8))[j]? := fun j hj => by
      rw [Array.getElem?_append_left (by simp [Builtin.zeroCells, Value.cells]; omega), Array.getElem?_append_left (by simp; omega)]
      simp [hj]
    generalize ((xs.map (Value.int .u8)).take i).toArray ++ Builtin.zeroCells (Value.int .u8 0).cells (xs.length + ys.length - i) ++ Builtin.zeroCells (Value.int .u8 0).cells (G - (xs.length + ys.length)) = ROW at *
    have hbd : Below B w (w.alloc (.cells ROW 5)).drew := ((Below.refl _ _).alloc hB _).drew
    refine ⟨⟨_, rfl, ?_⟩, below_sets hB _ _ (below_sets hB _ _ hbd).drew⟩
    have hg0 : (w.alloc (.cells ROW 5)).drew.heap[w.heap.size]? = some (.cells ROW 5 (0, 0)) := heap_alloc_new w _
    obtain ⟨cur3, h3, h4⟩ := setCells_blk w.heap.size (ys.map (Value.int .u8)) i _ ROW _ _ hg0
    obtain ⟨cur4, h5, h6⟩ := setCells_blk w.heap.size ((xs.map (Value.int .u8)).drop i) (i + ys.length) ((w.alloc (.cells ROW 5)).drew.setCells w.heap.size i (ys.map (Value.int .u8))).drew cur3 _ _ h3
    refine own_of_cells h5 (by omega) hB (by rw [List.length_map, hlen]) hGn hGm ?_
    rw [hmap]
    intro j v hj
    have hat : ∀ k, (w.alloc (.cells ROW 5)).drew.cell? ⟨w.heap.size, k, none⟩ = ROW[k]? := fun k => by
      rw [cell_of_row _ w.heap.size k ROW 5 (0, 0) hg0]
    have hsome : ∀ k, k < G → ((w.alloc (.cells ROW 5)).drew.cell? ⟨w.heap.size, k, none⟩).isSome = true := fun k hk => by
      rw [hat, Array.getElem?_eq_getElem (by omega)]; rfl
    have hdl : ((xs.map (Value.int .u8)).drop i).length = xs.length - i := by simp
    have hsome2 : ∀ k, k < G → (((w.alloc (.cells ROW 5)).drew.setCells w.heap.size i (ys.map (Value.int .u8))).drew.cell? ⟨w.heap.size, k, none⟩).isSome = true := fun k hk => Go.Proofs.isSome_setCells w.heap.size _ _ _ (fun j hj => hsome _ (by simp at hj; omega)) k (hsome k hk)
    rcases ins_get _ _ i (by simp; omega) j v hj with ⟨h7, h8⟩ | ⟨h7, h8, h9⟩ | ⟨h7, h8⟩
    · rw [World.cell?_setCells_out w.heap.size _ _ _ _ (fun _ _ => .inl (by show j < _; omega))]
      show ((w.alloc (.cells ROW 5)).drew.setCells w.heap.size i (ys.map (Value.int .u8))).cell? _ = _
      rw [World.cell?_setCells_out w.heap.size _ _ _ _ (fun _ _ => .inl h7), hat, hrk j h7]
      exact h8
    · have hjl : j - i < (ys.map (Value.int .u8)).length := by omega
      rw [World.cell?_setCells_out w.heap.size _ _ _ _ (fun _ _ => .inl (by show j < _; rw [List.length_map] at h8; exact h8))]
      show ((w.alloc (.cells ROW 5)).drew.setCells w.heap.size i (ys.map (Value.int .u8))).cell? _ = _
      have := World.cell?_setCells_in w.heap.size (ys.map (Value.int .u8)) i _ (fun k hk => hsome (i + k) (by simp at hk; omega)) (j - i) hjl
      rw [show i + (j - i) = j by omega] at this
      rw [this]
      rw [List.getElem?_eq_getElem hjl] at h9
      exact h9
    · rw [List.length_map] at h7 h8
      have hjl : j - (i + ys.length) < ((xs.map (Value.int .u8)).drop i).length := by
        rcases Nat.lt_or_ge (j - (i + ys.length)) ((xs.map (Value.int .u8)).drop i).length with h | h
        · exact h
        · rw [List.getElem?_eq_none h] at h8; cases h8
      have := World.cell?_setCells_in w.heap.size ((xs.map (Value.int .u8)).drop i) (i + ys.length) ((w.alloc (.cells ROW 5)).drew.setCells w.heap.size i (ys.map (Value.int .u8))).drew (fun k hk => hsome2 (i + ys.length + k) (by rw [hdl] at hk; omega)) (j - (i + ys.length)) hjl
      rw [show i + ys.length + (j - (i + ys.length)) = j by omega] at this
      rw [this]
      rw [List.getElem?_eq_getElem hjl] at h8
      exact h8
end Go.Proofs.YtfoohdknjacenaaDoor
