/- Texts of this proof, one behind the other. -/
import Derived.Test.YtlkeomcillencaaGreatRoomsPlayG6
import Derived.Lib.Overlaps
import Derived.Lib.AppendZerosOnto
import Derived.Shelf.RegionOpenPlain
import Derived.Shelf.Spec.SlicesInsert
import Derived.Test.YtlkeomcillencaaGreatRoomsPlayG5
import Derived.Test.YtlkeomcillencaaGreatRoomsPlayG2
set_option linter.unusedVariables false
set_option linter.unusedSimpArgs false
section
/- Layer 19: slices.Insert at members; Add. -/
namespace Go.Proofs.YtlkeomcillencaaGreat
open Go Go.RowKit Go.Lib

theorem encM_one {u : Value} {xs : List Mem} (h : u ∈ xs.flatMap encM) : u.oneCell' = true := by
  obtain ⟨x, _, hx⟩ := List.mem_flatMap.1 h
  simp only [encM, List.mem_cons, List.not_mem_nil, or_false] at hx
  rcases hx with rfl | rfl | rfl <;> rfl
theorem ins_take {A B : List Value} {p : Nat} (hp : p ≤ A.length) {c : Array Value} (h1 : ∀ j, j < p → c[j]? = A[j]?) (h2 : ∀ j, j < B.length → c[p + j]? = B[j]?) (h3 : ∀ j, p + j < A.length → c[p + B.length + j]? = A[p + j]?) :
    c.toList.take (A.length + B.length) = A.take p ++ B ++ A.drop p := by
  apply List.ext_getElem?
  intro j
  have hpl : (A.take p).length = p := by rw [List.length_take]; omega
  by_cases a : j < p
  · rw [List.getElem?_take_of_lt (by omega), Array.getElem?_toList, h1 j a, List.append_assoc, List.getElem?_append_left (by omega), List.getElem?_take_of_lt a]
  · by_cases b : j < p + B.length
    · rw [List.getElem?_take_of_lt (by omega), Array.getElem?_toList]
      have := h2 (j - p) (by omega)
      rw [show p + (j - p) = j by omega] at this
      rw [this, List.getElem?_append_left (by rw [List.length_append]; omega), List.getElem?_append_right (by omega), hpl]
    · by_cases d : j < A.length + B.length
      · rw [List.getElem?_take_of_lt d, Array.getElem?_toList]
        have := h3 (j - p - B.length) (by omega)
        rw [show p + B.length + (j - p - B.length) = j by omega] at this
        rw [this, List.getElem?_append_right (by rw [List.length_append]; omega), List.length_append, hpl, List.getElem?_drop]
        congr 1; omega
      · rw [List.getElem?_take_eq_none (by omega), List.getElem?_eq_none (by rw [List.length_append, List.length_append, List.length_drop]; omega)]
theorem flat_drop (xs : List Mem) (i : Nat) : (xs.flatMap encM).drop (i * 3) = (xs.drop i).flatMap encM := by
  have h := List.take_append_drop i xs
  have h2 : (xs.flatMap encM) = (xs.take i).flatMap encM ++ (xs.drop i).flatMap encM := by rw [← List.flatMap_append, h]
  by_cases hi : i ≤ xs.length
  · rw [h2, List.drop_append, List.drop_of_length_le (by rw [flat3, List.length_take]; omega), flat3, List.length_take, show i * 3 - min i xs.length * 3 = 0 by rw [Nat.min_eq_left hi]; omega]
    simp
  · rw [List.drop_of_length_le (by rw [flat3]; omega), List.drop_of_length_le (by omega)]; rfl
theorem encM_one1 {m : Mem} {u : Value} (h : u ∈ encM m) : u.oneCell' = true := by
  simp only [encM, List.mem_cons, List.not_mem_nil, or_false] at h
  rcases h with rfl | rfl | rfl <;> rfl
theorem flat_one {xs : List Mem} : ∀ u ∈ xs.flatMap encM, u.oneCell' = true := fun u hu => by
  obtain ⟨m, _, h⟩ := List.mem_flatMap.1 hu
  exact encM_one1 h
/-- what slices.Insert leaves -/
def InsP (base : Nat) (W : World) (v : Value) (ys : List Mem) (e : Ending) (w' : World) : Prop := (∃ A c, e = .returned (.slice A ys.length c) ∧ OwnM base w' (.slice A ys.length c) ys ∧ Tie W v (.slice A ys.length c)) ∧ Fr (fun k => v.ownBlock = some k) W w'
set_option maxRecDepth 100000 in
set_option maxHeartbeats 8000000 in
theorem insM_end {base : Nat} {W : World} {A : Option Addr} {c : Nat} {xs : List Mem} (h : OwnM base W (.slice A xs.length c) xs) (m : Mem) {N : Nat} (hk : W.heap[N]? = some (.cells #[.int .i64 m.1, .bool m.2.1, .bool m.2.2] 71 (0, 0))) (hl : xs.length ≤ 1000000) (hb : base ≤ W.heap.size) :
    Calls Tryz.prog 78 #[.slice A xs.length c, .int .i64 xs.length, .slice (some ⟨N, 0, none⟩) 1 1] W (InsP base W (.slice A xs.length c) (xs ++ [m])) := by
  obtain ⟨i0, hi0, hz0, hz1, hz2⟩ := info_parts Tryz.infoMb
  obtain ⟨v', w', hr, r1, r2, r3⟩ := run_app_any (P := Tryz.prog) W base 88 88 88 71 i0 _ 3 16 Tryz.underlying88 hi0 hz0 hz1 hz2 rfl _ xs.length (xs.flatMap encM) h (.slice (some ⟨N, 0, none⟩) 1 1) 1 (encM m)
    (Src.ofSlice W Tryz.underlying88 ⟨N, 0, none⟩ 1 1 (encM m) rfl (fun j u hu => by
      rw [add_at, Nat.zero_add, blk_cell hk j, ← hu]; simp [encM]) (fun u hu => encM_one1 hu)) (by unfold maxLen; omega) (by omega) hb
  obtain ⟨A2, c2, rfl⟩ := row_slice r1
  have hcap : A = none ∧ xs.length = 0 ∧ c = 0 ∨ (∃ g, A = some ⟨g, 0, none⟩) ∧ xs.length ≤ c ∧ c ≤ 9223372036854775807 := by
    rcases h.2 with ⟨h2, h3⟩ | ⟨g', cap', cur, h2, _, _, h5, h6, _⟩
    · injection h2 with e1 e2 e3; exact .inl ⟨e1, h3, e3⟩
    · injection h2 with e1 e2 e3
      subst e3
      exact .inr ⟨⟨g', e1⟩, h5, by unfold maxLen at h6; omega⟩
  have HR := Lib.hid (And.intro (ownM_snoc r1) (And.intro r2 r3))
  obtain ⟨n, hn⟩ : ∃ n, xs.length = n := ⟨_, rfl⟩
  have HN := Lib.hid hn
  rw [hn] at hr hcap ⊢
  have hn6 : n ≤ 1000000 := by omega
  clear h hk hb r1 r2 r3 hi0 hz0 hz1 hz2 hn hl
  rcases hcap with ⟨rfl, rfl, rfl⟩ | ⟨⟨g, rfl⟩, hnc, hc63⟩
  · go_enter Tryz.func78, Tryz.ntmps78
    go_wp2_with (at_builtin; refine Lib.wpList_append_run _ rfl _ _ _ _ rfl _ _ rfl rfl _ _ hr ?_)
    go_ret
    obtain ⟨a, b, d⟩ := HR.out
    rw [HN.out] at a
    refine ⟨⟨A2, c2, by rw [List.length_append, HN.out]; rfl, by rw [List.length_append, HN.out]; exact a, fun k hk hlt => ?_⟩, b⟩
    rcases d k (by rw [List.length_append] at hk; exact hk) with e | e
    · exact e
    · omega
  · by_cases hcn : c = n
    all_goals
      go_enter Tryz.func78, Tryz.ntmps78
      go_wp2_with (at_builtin; refine Lib.wpList_append_run _ rfl _ _ _ _ rfl _ _ rfl rfl _ _ hr ?_)
      go_ret
      obtain ⟨a, b, d⟩ := HR.out
      rw [HN.out] at a
      refine ⟨⟨A2, c2, by rw [List.length_append, HN.out]; rfl, by rw [List.length_append, HN.out]; exact a, fun k hk hlt => ?_⟩, b⟩
      rcases d k (by rw [List.length_append] at hk; exact hk) with e | e
      · exact e
      · omega
theorem ins_flat (xs : List Mem) (i : Nat) (m : Mem) : (xs.take i ++ m :: xs.drop i).flatMap encM = (xs.flatMap encM).take (i * 3) ++ encM m ++ (xs.flatMap encM).drop (i * 3) := by
  rw [List.flatMap_append, List.flatMap_cons, flat_take, flat_drop, List.append_assoc]
theorem overlaps_no {W : World} {N g : Nat} {m : Mem} (hNg : N ≠ g) (hk : W.heap[N]? = some (.cells #[.int .i64 m.1, .bool m.2.1, .bool m.2.2] 71 (0, 0))) {cur : Array Value} {tB : TypeId} (hg : W.heap[g]? = some (.cells cur tB (0, 0))) (hz : cur.size ≠ 0) (o lb cb : Nat) :
    (callFunc 105 #[.slice (some ⟨N, 0, none⟩) 1 1, .slice (some ⟨g, o, none⟩) lb cb]).run Tryz.prog W = .ok (.value (.bool false)) W := by
  rw [run_callFunc_extern Tryz.func105 (by kernel_rfl) (by kernel_rfl) (by kernel_rfl) (e := Extern.SlicesOverlaps.overlaps #[88, 88] #[4]) (by kernel_rfl),
    Lib.run_overlaps_apart W 88 4 71 Tryz.underlying88 3 Tryz.sizeOf71 ⟨N, 0, none⟩ ⟨g, o, none⟩ 1 1 lb cb hNg 71 tB 3 cur.size (by simp [World.shape?, hk]) (by simp [World.shape?, hg]) hz (blk_free hk _) (by simp [World.frozen?, hk])]
  rfl
set_option maxRecDepth 100000 in
set_option maxHeartbeats 8000000 in
theorem insM_shift {base : Nat} {W : World} {g c : Nat} {xs : List Mem} (h : OwnM base W (.slice (some ⟨g, 0, none⟩) xs.length c) xs) (m : Mem) {N : Nat} (hk : W.heap[N]? = some (.cells #[.int .i64 m.1, .bool m.2.1, .bool m.2.2] 71 (0, 0))) (hNg : N ≠ g) (hl : xs.length ≤ 1000000)
    (i : Nat) (hi : i < xs.length) (hroom : xs.length + 1 ≤ c) :
    Calls Tryz.prog 78 #[.slice (some ⟨g, 0, none⟩) xs.length c, .int .i64 i, .slice (some ⟨N, 0, none⟩) 1 1] W (InsP base W (.slice (some ⟨g, 0, none⟩) xs.length c) (xs.take i ++ m :: xs.drop i)) := by
  obtain ⟨i0, hi0, hz0, hz1, hz2⟩ := info_parts Tryz.infoMb
  obtain ⟨cur, hgr, hcm, hcs, hbg⟩ : ∃ cur, W.heap[g]? = some (.cells cur 71 (0, 0)) ∧ c ≤ maxLen ∧ cur.size = c * 3 ∧ base ≤ g := by
    rcases h.2 with ⟨h2, _⟩ | ⟨g', cap', cur, h2, h3, h4, h5, h6, h7, _⟩
    · cases h2
    · injection h2 with e1 _ e3
      injection e1 with e1; injection e1 with e1
      subst e1; subst e3
      exact ⟨cur, h4, h6, h7, h3⟩
  have hc63 : c ≤ 9223372036854775807 := by unfold maxLen at hcm; omega
  have hov : ∀ lb cb, (callFunc 105 #[.slice (some ⟨N, 0, none⟩) 1 1, .slice (some ⟨g, (i + 1) * 3, none⟩) lb cb]).run Tryz.prog W = .ok (.value (.bool false)) W := fun lb cb => overlaps_no hNg hk hgr (by omega) _ lb cb
  obtain ⟨A, hA⟩ : ∃ A, xs.flatMap encM = A := ⟨_, rfl⟩
  have hAl : A.length = xs.length * 3 := by rw [← hA, flat3]
  have hcell : ∀ j, j < xs.length * 3 → W.cell? ⟨g, j, none⟩ = A[j]? := fun j hj => by rw [← hA]; exact World.ownsRow.cellAt h j hj
  have hsz : (Tryz.prog.info? 71).map (·.size) = some 3 := by rw [hi0]; simp [hz1]
  have hdl : (A.drop (i * 3)).length = (xs.length - i) * 3 := by rw [List.length_drop, hAl, Nat.sub_mul]
  have hone : ∀ u ∈ A, u.oneCell' = true := fun u hu => encM_one (by rw [hA]; exact hu)
  have hsome : ∀ j, j < c * 3 → (W.cell? ⟨g, j, none⟩).isSome = true ∧ W.frozen? ⟨g, j, none⟩ = false := fun j hj => row_spare h j hj
  have hcp1 : ∀ ty dc sc, (Builtin.copy_ #[88, 88] ty #[.slice (some ⟨g, (i + 1) * 3, none⟩) (xs.length - i) dc, .slice (some ⟨g, i * 3, none⟩) (xs.length + 1 - i) sc]).run Tryz.prog W.drew = .ok (goInt (xs.length - i)) (W.drew.setCells g ((i + 1) * 3) (A.drop (i * 3))) := fun ty dc sc => by
    have := run_copy_flat (P := Tryz.prog) W.drew 88 88 ty 71 3 g ((i + 1) * 3) (xs.length - i) dc ⟨g, i * 3, none⟩ (xs.length + 1 - i) sc (A.drop (i * 3)) Tryz.underlying88 hsz (by rw [hdl]; congr 1; simp only [Nat.min_def]; split <;> omega)
      (fun j v hj => by
        rw [Addr.add_lit]
        rw [List.getElem?_drop] at hj
        have hj2 := (List.getElem?_eq_some_iff.1 hj).1
        exact (hcell (i * 3 + j) (by omega)).trans hj)
      (fun j hj => (hsome _ (by rw [hdl] at hj; omega)).1) (fun j hj => (hsome _ (by rw [hdl] at hj; omega)).2) (fun v hv => hone v (List.mem_of_mem_drop hv))
    rw [this]
    congr 2
    simp only [Nat.min_def]; split <;> omega
  obtain ⟨W1, hW1⟩ : ∃ W1, W1 = W.drew.setCells g ((i + 1) * 3) (A.drop (i * 3)) := ⟨_, rfl⟩
  have hcp2 : ∀ (V : World), (∀ x, V.cell? x = W1.cell? x) → (∀ x, V.frozen? x = W1.frozen? x) → ∀ ty dc, (Builtin.copy_ #[88, 88] ty #[.slice (some ⟨g, i * 3, none⟩) (xs.length + 1 - i) dc, .slice (some ⟨N, 0, none⟩) 1 1]).run Tryz.prog V = .ok (goInt 1) (V.setCells g (i * 3) (encM m)) := fun V hVc hVf ty dc => by
    have := run_copy_flat (P := Tryz.prog) V 88 88 ty 71 3 g (i * 3) (xs.length + 1 - i) dc ⟨N, 0, none⟩ 1 1 (encM m) Tryz.underlying88 hsz (by show 3 = _; simp only [Nat.min_def]; split <;> omega)
      (fun j v hj => by
        rw [Addr.add_lit, hVc, hW1, World.cell?_setCells_out _ _ _ _ _ (fun e _ => absurd e hNg), Nat.zero_add]
        exact (blk_cell hk j).trans (by rw [← hj]; simp [encM]))
      (fun j hj => by
        have hj3 : j < 3 := hj
        rw [hVc, hW1]
        exact Go.Proofs.isSome_setCells g _ ((i + 1) * 3) W.drew (fun t ht => (hsome ((i + 1) * 3 + t) (by rw [hdl] at ht; omega)).1) (i * 3 + j) (hsome (i * 3 + j) (by omega)).1)
      (fun j hj => by
        have hj3 : j < 3 := hj
        rw [hVf, hW1, World.frozen?_setCells]; exact (hsome _ (by omega)).2) (fun v hv => encM_one1 hv)
    rw [this]
    congr 2
    simp only [Nat.min_def]; split <;> omega
  rw [← hW1] at hcp1
  have hF1 : Fr (fun k => k = g) W W1 := by rw [hW1]; exact fr_setCells (X := fun k => k = g) (a := W) (b := g) (.inl rfl) _ _ _ (Fr.refl _ W).drew
  obtain ⟨c1, hg1, hs1, hc1⟩ := heap_setCells (b := g) (A.drop (i * 3)) ((i + 1) * 3) W.drew cur hgr
  rw [← hW1] at hg1
  have hfin : ∀ V, (∃ q, V = (W1.drewN q).setCells g (i * 3) (encM m)) → OwnM base V (.slice (some ⟨g, 0, none⟩) (xs.length + 1) c) (xs.take i ++ m :: xs.drop i) ∧ Fr (fun k => k = g) W V := fun V ⟨q, hV⟩ => by
    obtain ⟨c2, hg2, hs2, hc2⟩ := heap_setCells (b := g) (encM m) (i * 3) (W1.drewN q) c1 hg1
    rw [← hV] at hg2
    have hlen : (xs.take i ++ m :: xs.drop i).length = xs.length + 1 := by rw [List.length_append, List.length_cons, List.length_take, List.length_drop]; omega
    have h3 : (encM m).length = 3 := rfl
    have htk := ins_take (A := A) (B := encM m) (p := i * 3) (c := c2) (by omega) (fun j hj => by
        rw [hc2, if_neg (by omega), hc1, if_neg (by omega)]
        have := blk_cell hgr j
        rw [← this]; exact hcell j (by omega)) (fun j hj => by
        rw [hc2, if_pos ⟨by omega, by omega, by omega⟩, show i * 3 + j - i * 3 = j by omega]) (fun j hj => by
        rw [hc2, if_neg (by omega), hc1, if_pos ⟨by omega, by rw [hdl]; omega, by omega⟩, List.getElem?_drop]
        congr 1; omega)
    refine ⟨⟨by rw [hlen, ins_flat, hA, List.length_append, List.length_append, List.length_take, hdl, hAl, h3]; omega, .inr ⟨g, c, c2, ?_, hbg, hg2, by omega, hcm, by omega, ?_⟩⟩, ?_⟩
    · rw [hlen]
    · rw [hlen, ins_flat, hA, ← htk, hAl, h3]
      congr 1; omega
    · rw [hV]; exact fr_setCells (X := fun k => k = g) (a := W) (b := g) (.inl rfl) _ _ _ (hF1.drewN q)
  have HFIN := Lib.hid hfin
  obtain ⟨n, hn⟩ : ∃ n, xs.length = n := ⟨_, rfl⟩
  have HN := Lib.hid (And.intro hn hi)
  rw [hn] at hcp1 hcp2 hroom hl hi HFIN ⊢
  have hw1 : IntKind.i64.wrap ((i : Int) + 1) = (i : Int) + 1 := by rw [IntKind.wrap_i64]; omega
  have hb1 : (0 : Int) ≤ (i : Int) + 1 := by omega
  have hin : i ≤ n := by omega
  have htn : ((i : Int) + 1).toNat = i + 1 := by omega
  have hb2 : ¬ (c = i + 1) := by omega
  have hb3 : (i : Int) ≤ (n : Int) + 1 := by omega
  have hb4 : ¬ (c = i) := by omega
  have hz2 : ¬ ((i : Int) = (n : Int)) := by omega
  have mixed : Tryz.prog.follows Departure.mixedOrders = true := by kernel_rfl
  clear h hk hi0 hz0 hz1 hA hAl hcell hsz hdl hone hsome hF1 hg1 hs1 hc1 hfin hn hgr hcs hcm hbg hNg
  go_enter Tryz.func78, Tryz.ntmps78
  go_wp2_with (simp only [hov])
  go_region_law_o (refine Go.Proofs.step_copy_runI rfl _ _ 88 88 rfl _ _ (by simp [Act.eval, Act.put]) (by simp [Act.eval, Act.put]) (hcp1 _ _ _) ?_)
  go_wp2_with (at_builtin; refine Go.Proofs.wpList_copy_runI _ rfl _ _ 88 88 rfl _ _ rfl rfl (hcp2 _ (fun _ => rfl) (fun _ => rfl) _ _) ?_)
  go_ret
  obtain ⟨hn, hi⟩ := HN.out
  have hlen : (xs.take i ++ m :: xs.drop i).length = n + 1 := by rw [List.length_append, List.length_cons, List.length_take, List.length_drop]; omega
  obtain ⟨a, b⟩ := HFIN.out ((W.drew.setCells g ((i + 1) * 3) (A.drop (i * 3))).setCells g (i * 3) (encM m)) ⟨0, by rw [hW1]; rfl⟩
  refine ⟨⟨some ⟨g, 0, none⟩, c, by rw [hlen]; rfl, by rw [hlen]; exact a, tie_same rfl⟩, b.mono fun k _ e => by subst e; rfl⟩
set_option maxRecDepth 100000 in
set_option maxHeartbeats 8000000 in
theorem insM_grow {base : Nat} {W : World} {g c : Nat} {xs : List Mem} (h : OwnM base W (.slice (some ⟨g, 0, none⟩) xs.length c) xs) (m : Mem) {N : Nat} (hk : W.heap[N]? = some (.cells #[.int .i64 m.1, .bool m.2.1, .bool m.2.2] 71 (0, 0))) (hb : base ≤ W.heap.size) (hl : xs.length ≤ 1000000)
    (i : Nat) (hi : i < xs.length) (hroom : c < xs.length + 1) :
    Calls Tryz.prog 78 #[.slice (some ⟨g, 0, none⟩) xs.length c, .int .i64 i, .slice (some ⟨N, 0, none⟩) 1 1] W (InsP base W (.slice (some ⟨g, 0, none⟩) xs.length c) (xs.take i ++ m :: xs.drop i)) := by
  obtain ⟨i0, hi0, hz0, hz1, hz2⟩ := info_parts Tryz.infoMb
  obtain ⟨cur, hgr, hnc⟩ : ∃ cur, W.heap[g]? = some (.cells cur 71 (0, 0)) ∧ xs.length ≤ c := by
    rcases h.2 with ⟨h2, _⟩ | ⟨g', cap', cur, h2, h3, h4, h5, h6, h7, _⟩
    · cases h2
    · injection h2 with e1 _ e3
      injection e1 with e1; injection e1 with e1
      subst e1; subst e3
      exact ⟨cur, h4, h5⟩
  obtain ⟨A, hA⟩ : ∃ A, xs.flatMap encM = A := ⟨_, rfl⟩
  have hAl : A.length = xs.length * 3 := by rw [← hA, flat3]
  have hcell : ∀ j, j < xs.length * 3 → W.cell? ⟨g, j, none⟩ = A[j]? := fun j hj => by rw [← hA]; exact World.ownsRow.cellAt h j hj
  have hsz : (Tryz.prog.info? 71).map (·.size) = some 3 := by rw [hi0]; simp [hz1]
  have hdl : (A.drop (i * 3)).length = (xs.length - i) * 3 := by rw [List.length_drop, hAl, Nat.sub_mul]
  have hone : ∀ u ∈ A, u.oneCell' = true := fun u hu => encM_one (by rw [hA]; exact hu)
  have hgl : g < W.heap.size := blk_lt hgr
  have hNl : N < W.heap.size := blk_lt hk
  have hik : i + (xs.length + 1 - i) = xs.length + 1 := by omega
  have hold : (Builtin.firstCells i0.size i (.slice (some ⟨g, 0, none⟩) i c)).run Tryz.prog W.drew = .ok (A.take (i * 3)).toArray W.drew := by
    rw [hz1]
    exact run_firstCells_some W.drew 3 i ⟨g, 0, none⟩ i c (A.take (i * 3)) (by rw [List.length_take]; omega) (fun j v hj => by
      rw [Addr.add_lit, Nat.zero_add]
      rw [List.getElem?_take] at hj
      split at hj
      · exact (hcell j (by omega)).trans hj
      · cases hj)
  obtain ⟨G, hG⟩ : ∃ G, G = grownCap W (xs.length + 1) c 71 := ⟨_, rfl⟩
  obtain ⟨ROW, hROW⟩ : ∃ ROW : Array Value, ROW = (A.take (i * 3)).toArray ++ Builtin.zeroCells (memV (0, false, false)).cells (xs.length + 1 - i) ++ Builtin.zeroCells (memV (0, false, false)).cells (G - (xs.length + 1)) := ⟨_, rfl⟩
  have hrz : ∀ ty, (Builtin.append_ #[88, 3] ty #[.slice (some ⟨g, 0, none⟩) i c, .int .i64 ((xs.length : Int) + 1 - (i : Int))]).run Tryz.prog W = .ok (.slice (some ⟨W.heap.size, 0, none⟩) (xs.length + 1) G) (W.drew.alloc (.cells ROW 71)) := fun ty => by
    have h := Lib.run_append_grow_zeros W 88 3 ty 71 i0 _ .i64 .i64 Tryz.underlying88 Tryz.underlying3 hi0 hz0 (some ⟨g, 0, none⟩) i c (A.take (i * 3)) hold (xs.length + 1 - i) (by omega) (by omega) (by omega) (by omega) (by rw [hz2]; omega) (by rw [hz2, hik]; exact growslice_fits hroom (by omega))
    rw [hik, ← hG, ← hROW] at h
    rw [show (xs.length : Int) + 1 - (i : Int) = ((xs.length + 1 - i : Nat) : Int) by omega]
    exact h
  have hRl : (xs.length + 1) * 3 ≤ ROW.size := by
    rw [hROW]
    simp only [Array.size_append, List.size_toArray, List.length_take, hAl]
    rw [size_zeroCells]
    show _ ≤ _ + (xs.length + 1 - i) * 3 + _
    omega
  have hGn : xs.length + 1 ≤ G := by rw [hG]; exact grownCap_ge W _ _ _
  have hRs : ROW.size = G * 3 := by
    rw [hROW]
    simp only [Array.size_append, List.size_toArray, List.length_take, hAl]
    rw [size_zeroCells, size_zeroCells]
    show min (i * 3) (xs.length * 3) + (xs.length + 1 - i) * 3 + (G - (xs.length + 1)) * 3 = G * 3
    omega
  have hRt : ∀ j, j < i * 3 → ROW[j]? = A[j]? := fun j hj => by
    rw [hROW, Array.append_assoc, Array.getElem?_append_left (by simp [hAl]; omega), List.getElem?_toArray, List.getElem?_take_of_lt hj]
  have hGm : G ≤ maxLen := by rw [hG]; exact grownCap_le_maxLen W (xs.length + 1) c _ (by unfold maxLen; omega)
  have hG63 : G ≤ 9223372036854775807 := by unfold maxLen at hGm; omega
  obtain ⟨K, hK⟩ : ∃ K, W.heap.size = K := ⟨_, rfl⟩
  obtain ⟨W1, hW1⟩ : ∃ W1, W1 = (W.alloc (.cells ROW 71)).drew := ⟨_, rfl⟩
  have hW1' : W.drew.alloc (.cells ROW 71) = W1 := by rw [hW1]; rfl
  have kK : W1.heap[K]? = some (.cells ROW 71 (0, 0)) := by rw [hW1, ← hK]; exact heap_alloc_new W _
  have f1 : Fr (fun _ => False) W W1 := by rw [hW1]; exact ((Fr.refl _ W).alloc _).drew
  have kN := f1.blk hk fun e => e
  have hgc : ∀ j, W1.cell? ⟨g, j, none⟩ = W.cell? ⟨g, j, none⟩ := fun j => World.cell?_of_block (w := W) (w' := W1) (a := ⟨g, j, none⟩) (f1.block g hgl fun e => e)
  have hNs : ∀ j, j < (xs.length + 1) * 3 → (W1.cell? ⟨K, j, none⟩).isSome = true := fun j hj => by rw [blk_cell kK j, Array.getElem?_eq_getElem (by omega)]; rfl
  have hcpA : ∀ (V : World), (∀ x, V.cell? x = W1.cell? x) → (∀ x, V.frozen? x = W1.frozen? x) → ∀ ty dc, (Builtin.copy_ #[88, 88] ty #[.slice (some ⟨K, i * 3, none⟩) (xs.length + 1 - i) dc, .slice (some ⟨N, 0, none⟩) 1 1]).run Tryz.prog V = .ok (goInt 1) (V.setCells K (i * 3) (encM m)) := fun V hVc hVf ty dc => by
    have := run_copy_flat (P := Tryz.prog) V 88 88 ty 71 3 K (i * 3) (xs.length + 1 - i) dc ⟨N, 0, none⟩ 1 1 (encM m) Tryz.underlying88 hsz (by show 3 = _; simp only [Nat.min_def]; split <;> omega)
      (fun j v hj => by
        rw [Addr.add_lit, hVc, Nat.zero_add]
        exact (blk_cell kN j).trans (by rw [← hj]; simp [encM]))
      (fun j hj => by
        have hj3 : j < 3 := hj
        rw [hVc]; exact hNs _ (by omega))
      (fun j hj => by rw [hVf]; exact blk_free kK _) (fun v hv => encM_one1 hv)
    rw [this]
    congr 2
    simp only [Nat.min_def]; split <;> omega
  have hcpB : ∀ (V : World), (∀ x, V.cell? x = (W1.setCells K (i * 3) (encM m)).cell? x) → (∀ x, V.frozen? x = (W1.setCells K (i * 3) (encM m)).frozen? x) → ∀ ty dc sc, (Builtin.copy_ #[88, 88] ty #[.slice (some ⟨K, (i + 1) * 3, none⟩) (xs.length - i) dc, .slice (some ⟨g, i * 3, none⟩) (xs.length - i) sc]).run Tryz.prog V = .ok (goInt (xs.length - i)) (V.setCells K ((i + 1) * 3) (A.drop (i * 3))) := fun V hVc hVf ty dc sc => by
    have := run_copy_flat (P := Tryz.prog) V 88 88 ty 71 3 K ((i + 1) * 3) (xs.length - i) dc ⟨g, i * 3, none⟩ (xs.length - i) sc (A.drop (i * 3)) Tryz.underlying88 hsz (by rw [hdl]; congr 1; simp only [Nat.min_def]; split <;> omega)
      (fun j v hj => by
        rw [Addr.add_lit, hVc, World.cell?_setCells_out _ _ _ _ _ (fun e _ => by exfalso; have e2 : g = K := e; omega), hgc]
        rw [List.getElem?_drop] at hj
        have hj2 := (List.getElem?_eq_some_iff.1 hj).1
        exact (hcell (i * 3 + j) (by omega)).trans hj)
      (fun j hj => by rw [hdl] at hj; rw [hVc]; exact Go.Proofs.isSome_setCells K _ (i * 3) W1 (fun t ht => hNs _ (by have ht3 : t < 3 := ht; omega)) _ (hNs _ (by omega)))
      (fun j hj => by rw [hVf, World.frozen?_setCells]; exact blk_free kK _) (fun v hv => hone v (List.mem_of_mem_drop hv))
    rw [this]
    congr 2
    simp only [Nat.min_def]; split <;> omega
  obtain ⟨c1, hg1, hs1, hc1⟩ := heap_setCells (b := K) (encM m) (i * 3) W1 ROW kK
  have hfin : ∀ V, V = ((W1.setCells K (i * 3) (encM m)).drew).setCells K ((i + 1) * 3) (A.drop (i * 3)) → OwnM base V (.slice (some ⟨K, 0, none⟩) (xs.length + 1) G) (xs.take i ++ m :: xs.drop i) ∧ Fr (fun k => k = g) W V := fun V hV => by
    obtain ⟨c2, hg2, hs2, hc2⟩ := heap_setCells (b := K) (A.drop (i * 3)) ((i + 1) * 3) ((W1.setCells K (i * 3) (encM m)).drew) c1 hg1
    rw [← hV] at hg2
    have hlen : (xs.take i ++ m :: xs.drop i).length = xs.length + 1 := by rw [List.length_append, List.length_cons, List.length_take, List.length_drop]; omega
    have h3 : (encM m).length = 3 := rfl
    have htk := ins_take (A := A) (B := encM m) (p := i * 3) (c := c2) (by omega) (fun j hj => by
        rw [hc2, if_neg (by omega), hc1, if_neg (by omega)]
        exact hRt j hj) (fun j hj => by
        rw [hc2, if_neg (by omega), hc1, if_pos ⟨by omega, by omega, by omega⟩, show i * 3 + j - i * 3 = j by omega]) (fun j hj => by
        rw [hc2, if_pos ⟨by omega, by rw [hdl]; omega, by omega⟩, List.getElem?_drop]
        congr 1; omega)
    refine ⟨⟨by rw [hlen, ins_flat, hA, List.length_append, List.length_append, List.length_take, hdl, hAl, h3]; omega, .inr ⟨K, G, c2, ?_, by omega, hg2, by omega, hGm, by omega, ?_⟩⟩, ?_⟩
    · rw [hlen]
    · rw [hlen, ins_flat, hA, ← htk, hAl, h3]
      congr 1; omega
    · rw [hV]
      exact fr_setCells (X := fun k => k = g) (a := W) (b := K) (.inr (by omega)) _ _ _ (fr_setCells (X := fun k => k = g) (a := W) (b := K) (.inr (by omega)) _ _ _ (f1.mono fun _ _ e => e.elim)).drew
  have HFIN := Lib.hid (And.intro hW1 (And.intro hK hfin))
  obtain ⟨n, hn⟩ : ∃ n, xs.length = n := ⟨_, rfl⟩
  have HN := Lib.hid (And.intro hn hi)
  rw [hW1'] at hrz
  rw [hn] at hrz hcpA hcpB hroom hl hi HFIN hnc ⊢
  rw [hK] at hrz
  have hw1 : IntKind.i64.wrap ((i : Int) + 1) = (i : Int) + 1 := by rw [IntKind.wrap_i64]; omega
  have hb1 : (0 : Int) ≤ (i : Int) + 1 := by omega
  have hin : i ≤ n := by omega
  have htn : ((i : Int) + 1).toNat = i + 1 := by omega
  have hb3 : (i : Int) ≤ (n : Int) := by omega
  have hic : i ≤ c := by omega
  have hic2 : (i : Int) ≤ (c : Int) := by omega
  have hGi : ¬ (G = i) := by omega
  have hGim : ¬ (G = i + 1) := by omega
  have hci : ¬ (c = i) := by omega
  have hz2 : ¬ ((i : Int) = (n : Int)) := by omega
  have hz3 : (c : Int) < (n : Int) + 1 := by omega
  have hc63 : c ≤ 9223372036854775807 := by omega
  have mixed : Tryz.prog.follows Departure.mixedOrders = true := by kernel_rfl
  clear h hk hi0 hz0 hz1 hA hAl hcell hsz hdl hone hgr hold hG hROW hRl hGm hRs hRt hK kK f1 kN hgc hNs hg1 hs1 hc1 hfin hn hW1' hW1 hik hgl hNl hb hnc
  go_enter Tryz.func78, Tryz.ntmps78
  go_wp2_with (first
    | (at_builtin; refine Lib.wpList_append_run _ rfl _ _ _ _ rfl _ _ rfl rfl _ _ (hrz _) ?_)
    | (at_builtin; refine Go.Proofs.wpList_copy_runI _ rfl _ _ 88 88 rfl _ _ rfl rfl (hcpA _ (fun _ => rfl) (fun _ => rfl) _ _) ?_))
  go_region_law_o (refine Go.Proofs.step_copy_runI rfl _ _ 88 88 rfl (.slice (some ⟨K, (i + 1) * 3, none⟩) (n - i) (G - (i + 1))) (.slice (some ⟨g, i * 3, none⟩) (n - i) (c - i)) (by simp [Act.eval, Act.put]) (by simp [Act.eval, Act.put]) (hcpB (W1.setCells K (i * 3) (encM m)).drew (fun _ => rfl) (fun _ => rfl) 3 (G - (i + 1)) (c - i)) ?_)
  go_wp2
  go_ret
  obtain ⟨hn, hi⟩ := HN.out
  obtain ⟨hW1, hK, hfin⟩ := HFIN.out
  have hlen : (xs.take i ++ m :: xs.drop i).length = n + 1 := by rw [List.length_append, List.length_cons, List.length_take, List.length_drop]; omega
  obtain ⟨a, b⟩ := hfin _ rfl
  refine ⟨⟨some ⟨K, 0, none⟩, G, by rw [hlen]; rfl, by rw [hlen]; exact a, tie_new (n := K) rfl (by omega)⟩, b.mono fun k _ e => by subst e; rfl⟩
/-- a member more, wherever -/
theorem insM_any {base : Nat} {W : World} {A : Option Addr} {c : Nat} {xs : List Mem} (h : OwnM base W (.slice A xs.length c) xs) (m : Mem) {N : Nat} (hk : W.heap[N]? = some (.cells #[.int .i64 m.1, .bool m.2.1, .bool m.2.2] 71 (0, 0))) (hN : (Value.slice A xs.length c).ownBlock ≠ some N)
    (hb : base ≤ W.heap.size) (hl : xs.length ≤ 1000000) (i : Nat) (hi : i ≤ xs.length) :
    Calls Tryz.prog 78 #[.slice A xs.length c, .int .i64 i, .slice (some ⟨N, 0, none⟩) 1 1] W (InsP base W (.slice A xs.length c) (xs.take i ++ m :: xs.drop i)) := by
  rcases Nat.lt_or_ge i xs.length with hlt | hge
  · obtain ⟨g, rfl⟩ : ∃ g, A = some ⟨g, 0, none⟩ := by
      rcases h.2 with ⟨h2, h3⟩ | ⟨g', cap', cur, h2, _⟩
      · omega
      · injection h2 with e1 _ _; exact ⟨g', e1⟩
    rcases Nat.lt_or_ge c (xs.length + 1) with hr | hr
    · exact insM_grow h m hk hb hl i hlt hr
    · exact insM_shift h m hk (fun e => hN (by rw [e]; rfl)) hl i hlt hr
  · obtain rfl : i = xs.length := by omega
    rw [List.take_length, List.drop_length]
    exact insM_end h m hk hl hb
theorem ChgW.then {base B : Nat} {q q' : RmV} {r2 : Rm} {w w1 w2 : World} (f : Fr (RmX B q) w w1) (c : ∀ k, RmX B q' k → k < w.heap.size → RmX B q k) (h2 : ChgW base B q' r2 w1 w2) : ChgW base B q r2 w w2 := by
  obtain ⟨q2, a, b, d⟩ := h2
  exact ⟨q2, a, f.trans3 b fun k hk e => c k e hk, fun k hk hl => c k (d k hk (Nat.lt_of_lt_of_le hl f.size)) hl⟩
/-- a member more -/
def addR (r : Rm) (id : Int) (op : Bool) : Rm := if hasM r.mem id then r else { r with mem := insM r.mem (id, op, false), inv := delAll r.inv [id] }
set_option maxRecDepth 100000 in
set_option maxHeartbeats 8000000 in
theorem add_any {base B : Nat} {q : RmV} {r : Rm} {w : World} (h : RoomAt base B q r w) (id : Int) (op : Bool) (hl : r.mem.length ≤ 100000) (hil : r.inv.length ≤ 100000) :
    Calls Tryz.prog 48 #[.pointer (some ⟨B, 0, none⟩), .int .i64 id, .bool op] w fun e w' => (∃ v, e = .returned v) ∧ ChgW base B q (addR r id op) w w' := by
  have HP := Lib.hid (place_any h id (by omega))
  cases hb : hasM r.mem id with
  | true =>
    have hr : addR r id op = r := by unfold addR; rw [if_pos hb]
    rw [hr]
    rw [hb] at HP
    have H := Lib.hid h
    obtain ⟨i, hi⟩ : ∃ i, ixM r.mem id = i := ⟨_, rfl⟩
    rw [hi] at HP
    clear h hb hi hr
    go_enter Tryz.func48, Tryz.ntmps48
    go_wp2_with fail
    refine HP.out.mono ?_
    rintro e w1 ⟨rfl, hb1⟩
    have HB := Lib.hid hb1
    clear hb1
    go_wp2_with fail
    first | (refine bodyPost_ret (results_none rfl _ _ _) rfl ?_; exact ⟨⟨_, rfl⟩, q, H.out.below HB.out, Fr.of_below HB.out, fun _ hk _ => hk⟩) | (go_end0; exact ⟨⟨_, rfl⟩, q, H.out.below HB.out, Fr.of_below HB.out, fun _ hk _ => hk⟩)
  | false =>
    have hr : addR r id op = { r with mem := insM r.mem (id, op, false), inv := delAll r.inv [id] } := by unfold addR; rw [hb]; rfl
    rw [hr]
    rw [hb] at HP
    obtain ⟨A, c, hv⟩ := ownM_slice h.2.1
    have H := Lib.hid (And.intro h (And.intro hb (And.intro hv (And.intro hl hil))))
    have hixl := ixM_le r.mem id
    obtain ⟨i, hi⟩ : ∃ i, ixM r.mem id = i := ⟨_, rfl⟩
    obtain ⟨n, hn⟩ : ∃ n, r.mem.length = n := ⟨_, rfl⟩
    rw [hi] at HP hixl
    have HI := Lib.hid (And.intro hi (And.intro hn hixl))
    clear h hb hi hr hn hv hl hil hixl
    go_enter Tryz.func48, Tryz.ntmps48
    go_wp2_with fail
    refine HP.out.mono ?_
    rintro e w1 ⟨rfl, hb1⟩
    have h1 := H.out.1.below hb1
    obtain ⟨N, hN⟩ : ∃ N, w1.heap.size = N := ⟨_, rfl⟩
    obtain ⟨W2, hW2⟩ : ∃ W2, w1.alloc (.cells #[.int .i64 id, .bool op, .bool false] 71) = W2 := ⟨_, rfl⟩
    have b2 : RowKit.Below w1.heap.size w1 W2 := by rw [← hW2]; exact (Below.refl _ w1).alloc (Nat.le_refl _) _
    have k2 : W2.heap[N]? = some (.cells #[.int .i64 id, .bool op, .bool false] 71 (0, 0)) := by rw [← hW2, ← hN]; exact heap_alloc_new w1 _
    have h2 := h1.below b2
    have ho := h2.2.1
    rw [H.out.2.2.1] at ho
    have hbase : base ≤ W2.heap.size := by have := h2.2.2.2.2.1; have := blk_lt h2.1; omega
    have hvl : ∀ k, q.vm.ownBlock = some k → k < N ∧ k ≠ B := fun k hk => ⟨by have := (h1.lt k (.inr (.inl hk))).2; omega, fun e => h1.apart.1.1 (by rw [hk, e])⟩
    have hBN : B < N := by have := blk_lt h1.1; omega
    have hI := insM_any ho (id, op, false) k2 (fun e => by have := (hvl N (by rw [H.out.2.2.1]; exact e)).1; omega) hbase (by have := H.out.2.2.2.1; omega) i (by have := HI.out.2.2; omega)
    rw [HI.out.2.1] at hI
    have c1 : w1.cell? ⟨B, 1, none⟩ = some (.slice A n c) := by rw [← HI.out.2.1, ← H.out.2.2.1]; exact blk_cell h1.1 1
    have HN := Lib.hid hI
    have H2 := Lib.hid (And.intro hb1 (And.intro h1 (And.intro b2 (And.intro h2 (And.intro hvl (And.intro hBN hN))))))
    clear hb1 h1 b2 k2 h2 ho hbase hvl hBN hI
    go_wp2_with fail
    clear hW2 hN
    refine HN.out.mono ?_
    rintro e w3 ⟨⟨A3, c3, rfl, o3, t3⟩, f3⟩
    obtain ⟨hb1, h1, b2, h2, hvl, hBN, hN⟩ := H2.out
    have hq : (Value.slice A n c).ownBlock = q.vm.ownBlock := by rw [H.out.2.2.1, HI.out.2.1]
    have k3 : w3.heap[B]? = some (rmO r q) := f3.blk h2.1 fun e => by rw [hq] at e; exact (hvl B e).2 rfl
    have hins : r.mem.take i ++ (id, op, false) :: r.mem.drop i = insM r.mem (id, op, false) := by rw [← HI.out.1]; rfl
    rw [hins] at o3 t3 ⊢
    obtain ⟨n3, hn3⟩ : ∃ n3, (insM r.mem (id, op, false)).length = n3 := ⟨_, rfl⟩
    rw [hn3] at o3 t3 ⊢
    have d1 := blk_cell k3 1
    have g1 := blk_free k3 1
    obtain ⟨W4, hW4⟩ : ∃ W4, w3.setCell ⟨B, 1, none⟩ (.slice A3 n3 c3) = W4 := ⟨_, rfl⟩
    have f4 : Fr (fun k => k = B) w3 W4 := by rw [← hW4]; exact Fr.setCell (X := fun k => k = B) (Fr.refl _ w3) ⟨B, 1, none⟩ rfl _
    have k4 : W4.heap[B]? = some (rmO { r with mem := insM r.mem (id, op, false) } { q with vm := .slice A3 n3 c3 }) := by rw [← hW4]; exact blk_set k3 1 _
    have o4 : OwnM base W4 (.slice A3 n3 c3) (insM r.mem (id, op, false)) := ownM_kept o3 fun g hg => f4.block g (o3.lt g hg).2 fun e => by
      subst e
      have := t3 _ hg (by have := blk_lt h2.1; omega)
      rw [hq] at this
      exact (hvl _ this).2 rfl
    have f14 : Fr (fun k => k = B ∨ q.vm.ownBlock = some k) w1 W4 := ((Fr.of_below (X := fun k => k = B ∨ q.vm.ownBlock = some k) b2).trans3 f3 fun k _ e => .inr (by rw [hq] at e; exact e)).trans3 f4 fun k _ e => .inl e
    have hup : UpM (insM r.mem (id, op, false)) := insM_up h1.2.2.2.2.2.2 H.out.2.1
    have h4 : RoomAt base B { q with vm := .slice A3 n3 c3 } { r with mem := insM r.mem (id, op, false) } W4 := h1.toMem o4 hup k4 f14
    have hc4 : ∀ k, RmX B { q with vm := .slice A3 n3 c3 } k → k < w1.heap.size → RmX B q k := fun k hk hlt => by
      rcases hk with e | e | e | e | e
      · exact .inl e
      · exact .inr (.inl (by have := t3 k e (Nat.lt_of_lt_of_le hlt b2.size); rw [hq] at this; exact this))
      · exact .inr (.inr (.inl e))
      · exact .inr (.inr (.inr (.inl e)))
      · exact .inr (.inr (.inr (.inr e)))
    have f14' : Fr (RmX B q) w1 W4 := f14.mono fun k _ e => by
      rcases e with e | e
      · exact .inl e
      · exact .inr (.inl e)
    have b5 : RowKit.Below W4.heap.size W4 (W4.alloc (.cells #[.int .i64 id] 3)) := (Below.refl _ W4).alloc (Nat.le_refl _) _
    have h5 := h4.below b5
    have hlt := h4.lt
    have hS := (hlt q.S (.inr (.inr (.inr (.inl rfl)))))
    have hSA := set_rem h5.2.2.2.1 (by have := h4.2.2.2.2.1; have := blk_lt h4.1; simp; omega) (some ⟨W4.heap.size, 0, none⟩) [id] 1 (by simp; have := H.out.2.2.2.2; omega) (by simp) (fun _ => ⟨W4.heap.size, 0, rfl, by simp, fun e => by have e2 : W4.heap.size = q.S := e; omega, fun e => by have := (hlt _ (.inr (.inr (.inr (.inr e))))).2; omega, fun j hj => by
      obtain rfl : j = 0 := by simpa using hj
      exact blk_cell (heap_alloc_new W4 _) 0⟩)
    have c8 : W4.cell? ⟨B, 8, none⟩ = some (.pointer (some ⟨q.S, 0, none⟩)) := blk_cell h4.1 8
    obtain ⟨nr, hnr⟩ : ∃ nr : Int, ((({ r with mem := insM r.mem (id, op, false) } : Rm).inv.length - (delAll ({ r with mem := insM r.mem (id, op, false) } : Rm).inv [id]).length : Nat) : Int) = nr := ⟨_, rfl⟩
    rw [hnr] at hSA
    have HS := Lib.hid hSA
    have H4 := Lib.hid (And.intro h5 (And.intro b5 (And.intro hc4 f14')))
    clear hb1 h1 b2 h2 hvl hBN hN hq k3 hins o3 t3 hn3 f3 f4 k4 o4 f14 hup h4 hc4 f14' b5 h5 hlt hS hSA hnr c1
    go_wp2_with fail
    refine HS.out.mono ?_
    rintro e w6 ⟨rfl, ha⟩
    have HA := Lib.hid ha
    clear ha
    go_wp2_with fail
    go_end0
    obtain ⟨ob', a1, a2, a3⟩ := HA.out
    obtain ⟨h5, b5, hc4, f14'⟩ := H4.out
    refine ⟨⟨_, rfl⟩, ChgW.around (W := w1) ?_ H2.out.1 (Below.refl _ _)⟩
    exact ChgW.then f14' hc4 ((chgW_set h5 a1 a2 a3).around b5 (Below.refl _ _))
end Go.Proofs.YtlkeomcillencaaGreat
end
section
/- Regions that draw their order, anywhere (a loop's round over a function too), walked op by op in one way, where the fence lets every function by: what only reads may be taken first; S holds behind every operation but the last (number z), which waits for what reads. -/
namespace Go.Proofs.YtlkeomcillencaaGreat
open Go Go.RowKit

section
variable {F : Fence} {n : Nat} {P : Program} {md : Region.Mode} {ops : Array Oper} {Q : Exit → Act → World → Prop} {S : World → Prop} {z : Nat}
theorem wpOpIn_putIf {j : Nat} {oi oj : Oper} {v : Value} (hF : ∀ f, F.fn f) (hnd : noDefer ops = true) (hj : ops[j]? = some oj) (hap : oi.apart ops oj = true)
    (hsi : ∀ cs b, oi.op ≠ .select cs b) (hsj : ∀ cs b, oj.op ≠ .select cs b)
    (hQ : ∀ c a w, Q (.panic c) (a.put oi.dst v) w → Q (.panic c) a w) {K : Act → World → Prop} {a : Act} {w : World}
    (hy : YieldsIf P ops S oi v a) (h : wpOpIn F n P ops Q j K (a.put oi.dst v) w) :
    wpOpIn F n P ops Q j (fun a' w' => YieldsIf P ops S oi v a' ∧ K (a'.put oi.dst v) w') a w := by
  obtain ⟨h1, h2, h3⟩ := Oper.apart_spec hap
  have keep : ∀ (a : Act), YieldsIf P ops S oi v a → ∀ u, YieldsIf P ops S oi v (a.put oj.dst u) := fun a hy u =>
    hy.of_same (execOp_put oi hsi a oj.dst u h3) (wanted_put oi a oj.dst u h3)
  have keepD : ∀ d, YieldsIf P ops S oi v { a with defers := d :: a.defers } := fun d => hy.of_same rfl rfl
  have hnj := noDefer_spec hnd hj
  unfold wpOpIn at *
  simp only [hj] at *
  rw [wanted_put oj a oi.dst v h1, about_put oj w a oi.dst v h1] at h
  split
  · rename_i hw
    simp only [hw, if_true] at h
    unfold Oper.wpIn at *
    rw [about_put oj w a oi.dst v h1] at h
    refine ⟨h.1, ?_⟩
    have h := h.2
    rw [Oper.semAt_eq _ _ _ hnj, execOp_put oj hsj a oi.dst v h1] at h
    rw [Oper.semAt_eq _ _ _ hnj]
    generalize (execOp a.eval oj).run P w = r at *
    cases r with
    | ok x w' =>
      cases x <;> simp only [Oper.uponIn] at h ⊢
      case value u => exact ⟨keep a hy u, by rw [← Act.put_comm a v u h2]; exact h⟩
      case skip => exact ⟨keep a hy _, by rw [← Act.put_comm a v undef h2]; exact h⟩
      case defer d =>
        refine ⟨keep _ (keepD d) _, ?_⟩
        rw [← Act.put_comm _ v undef h2, ← Act.put_defers]
        exact h
      case enter f args =>
        refine ⟨h.1, CallsIn.mono h.2 fun e w'' he => ?_⟩
        cases e with
        | returned u => exact ⟨keep a hy u, by rw [← Act.put_comm a v u h2]; exact he⟩
        | panicked c => exact hQ _ _ _ he
        | outgrown => exact he
      case row row args => exact ⟨h.1, RowsIn.mono h.2 fun u w'' he => ⟨keep a hy u, by rw [← Act.put_comm a v u h2]; exact he⟩⟩
      case round l f tmps assign body =>
        refine ⟨h.1, RoundIn.mono h.2 fun e w'' he => ?_⟩
        cases e with
        | returned u => exact ⟨keep a hy u, by rw [← Act.put_comm a v u h2]; exact he⟩
        | panicked c => exact hQ _ _ _ he
        | outgrown => exact he
    | halt x w' =>
      cases x <;> simp only [Oper.uponIn] at h ⊢
      case panic u => exact hQ _ _ _ h
  · rename_i hw
    simp only [hw] at h
    exact ⟨h.1, keep a hy _, by rw [← Act.put_comm a v undef h2]; exact h.2⟩
theorem yieldsIf_wpOpIn {i : Nat} {o : Oper} {v : Value} {a : Act} (hF : ∀ f, F.fn f) (hnd : noDefer ops = true) (hi : ops[i]? = some o) (hy : YieldsIf P ops S o v a)
    {K : Act → World → Prop} {w : World} (hS : S w) (h : K (a.put o.dst v) w) : wpOpIn F n P ops Q i K a w := by
  unfold wpOpIn
  simp only [hi]
  rcases hy with ⟨hw, hv⟩ | ⟨hw, rfl⟩
  · simp only [hw, if_true, Oper.wpIn]
    refine ⟨fun f _ => hF f, ?_⟩
    rw [Oper.semAt_eq _ _ _ (noDefer_spec hnd hi), hv w hS]
    exact h
  · simp only [hw, Bool.false_eq_true, if_false]; exact ⟨fun f _ => hF f, h⟩
/-- whatever order is picked; S holds behind all but z -/
def wpAnyI (F : Fence) (n : Nat) (P : Program) (md : Region.Mode) (ops : Array Oper) (Q : Exit → Act → World → Prop) (S : World → Prop) (z : Nat) : Nat → Array Bool → Act → World → Prop
  | 0, listed, a, w => Region.ready md ops listed = [] ∧ Q .normal a w
  | fuel + 1, listed, a, w => (Region.ready md ops listed = [] → Q .normal a w) ∧
    ∀ i ∈ Region.ready md ops listed, wpOpIn F n P ops Q i (fun a' w' => (i ≠ z → S w') ∧ wpAnyI F n P md ops Q S z fuel (listed.setIfInBounds i true) a' w') a w
theorem wpAnyIn_of_i : ∀ (fuel : Nat) (listed : Array Bool) (a : Act) (w : World), wpAnyI F n P md ops Q S z fuel listed a w → wpAnyIn F n P md ops Q fuel listed a w
  | 0, _, _, _, h => h
  | fuel + 1, _, _, _, h => ⟨h.1, fun i hi => wpOpIn_mono (fun _ _ h' => wpAnyIn_of_i fuel _ _ _ h'.2) (h.2 i hi)⟩
theorem wpAnyI_first {i : Nat} {oi : Oper} {v : Value} (hF : ∀ f, F.fn f) (hnd : noDefer ops = true) (hi : ops[i]? = some oi) (hsel : ∀ (j : Nat) (o : Oper) cs b, ops[j]? = some o → o.op ≠ .select cs b)
    (hQ : ∀ c a w, Q (.panic c) (a.put oi.dst v) w → Q (.panic c) a w) (hz : waitsFor md ops z i = true) : ∀ (fuel : Nat) (listed : Array Bool) (a : Act) (w : World),
      (∀ j oj, ops[j]? = some oj → j ≠ i → listed.getD j true = false → (∀ e ∈ oj.after, Region.binds md e = true → e.on ≠ i) → oi.apart ops oj = true) →
      i ∈ Region.ready md ops listed → YieldsIf P ops S oi v a → S w → wpAnyI F n P md ops Q S z fuel (listed.setIfInBounds i true) (a.put oi.dst v) w → wpAnyI F n P md ops Q S z (fuel + 1) listed a w := by
  intro fuel
  induction fuel with
  | zero =>
    intro listed a w _ hr hy hS H
    refine ⟨fun h => (by rw [h] at hr; cases hr), fun j hj => ?_⟩
    by_cases hji : j = i
    · subst hji
      exact yieldsIf_wpOpIn hF hnd hi hy hS ⟨fun _ => hS, H⟩
    · have h1 := ready_mono hj hji
      rw [H.1] at h1
      cases h1
  | succ fuel ih =>
    intro listed a w hfree hr hy hS H
    refine ⟨fun h => (by rw [h] at hr; cases hr), fun j hj => ?_⟩
    by_cases hji : j = i
    · subst hji
      exact yieldsIf_wpOpIn hF hnd hi hy hS ⟨fun _ => hS, H⟩
    · have hjz := waits_not hz hr hj
      have h1 := H.2 j (ready_mono hj hji)
      obtain ⟨hjun, oj, hoj, hall⟩ := mem_ready.1 hj
      have hnot : ∀ e ∈ oj.after, Region.binds md e = true → e.on ≠ i := fun e he hb heq => by
        have h1 := hall e he hb
        have h0 := (mem_ready.1 hr).1
        rw [heq] at h1
        rcases Nat.lt_or_ge i listed.size with h' | h'
        · simp [h'] at h0 h1; rw [h0] at h1; cases h1
        · simp [Array.getElem?_eq_none h'] at h1
      have h2 := wpOpIn_putIf hF hnd hoj (hfree j oj hoj hji hjun hnot) (fun cs b => hsel i oi cs b hi) (fun cs b => hsel j oj cs b hoj) hQ hy h1
      refine wpOpIn_mono (fun a' w' h3 => ⟨h3.2.1, ih (listed.setIfInBounds j true) a' w' (fun k ok hk hki hun hno => hfree k ok hk hki ?_ hno) (ready_mono hr (Ne.symm hji)) h3.1 (h3.2.1 hjz) ?_⟩) h2
      · by_cases hjk : j = k
        · subst hjk; exact hjun
        · rw [getD_set_ne true hjk] at hun; exact hun
      · rw [Array.setIfInBounds_comm _ _ hji]
        exact h3.2.2
/-- what yields in every world that is held -/
theorem wpAnyI_read {i : Nat} {oi : Oper} (v : Value) {fuel : Nat} {listed : Array Bool} {a : Act} {w : World} (hF : ∀ f, F.fn f) (hnd : noDefer ops = true) (hi : ops[i]? = some oi)
    (hs : Region.noSelect ops = true) (hf : Region.free md ops listed i = true) (hr : (Region.ready md ops listed).contains i = true) (hz : waitsFor md ops z i = true)
    (hQ : ∀ c a w, Q (.panic c) (a.put oi.dst v) w → Q (.panic c) a w) (hw : Region.wanted oi (yielded ops a.tmps) = true) (hS : S w)
    (hy : ∀ w, S w → (execOp a.eval oi).run P w = .ok (.value v) w)
    (h : wpAnyI F n P md ops Q S z fuel (listed.setIfInBounds i true) (a.put oi.dst v) w) : wpAnyI F n P md ops Q S z (fuel + 1) listed a w :=
  wpAnyI_first hF hnd hi (Region.noSelect_spec hs) hQ hz fuel listed a w (Region.free_spec hi hf) (by simpa using hr) (Or.inl ⟨hw, hy⟩) hS h
/-- what is guarded, and not wanted -/
theorem wpAnyI_pass {i : Nat} {oi : Oper} {fuel : Nat} {listed : Array Bool} {a : Act} {w : World} (hF : ∀ f, F.fn f) (hnd : noDefer ops = true) (hi : ops[i]? = some oi)
    (hs : Region.noSelect ops = true) (hf : Region.free md ops listed i = true) (hr : (Region.ready md ops listed).contains i = true) (hz : waitsFor md ops z i = true)
    (hQ : ∀ c a w, Q (.panic c) (a.put oi.dst undef) w → Q (.panic c) a w) (hw : Region.wanted oi (yielded ops a.tmps) = false) (hS : S w)
    (h : wpAnyI F n P md ops Q S z fuel (listed.setIfInBounds i true) (a.put oi.dst undef) w) : wpAnyI F n P md ops Q S z (fuel + 1) listed a w :=
  wpAnyI_first hF hnd hi (Region.noSelect_spec hs) hQ hz fuel listed a w (Region.free_spec hi hf) (by simpa using hr) (Or.inr ⟨hw, rfl⟩) hS h
/-- one alone may come up: a call, a slice that is made -/
theorem wpAnyI_one {i : Nat} {o : Oper} {fuel : Nat} {listed : Array Bool} {a : Act} {w : World} (hr : Region.ready md ops listed = [i]) (ho : ops[i]? = some o) (hw : Region.wanted o (yielded ops a.tmps) = true)
    (h : ∀ K' : Act → World → Prop, Shut (∀ a w, S w → (S w → wpAnyI F n P md ops Q S z fuel (listed.setIfInBounds i true) a w) → K' a w) → Oper.wpIn F n P o a w K' Q) : wpAnyI F n P md ops Q S z (fuel + 1) listed a w :=
  ⟨fun h0 => absurd (hr ▸ h0) (by simp), by
    rw [hr]
    intro j hj
    obtain rfl := List.mem_singleton.1 hj
    exact wpOpIn_step ho fun K' hK => by rw [if_pos hw]; exact h K' fun a w hS hW => hK a w ⟨fun _ => hS, hW hS⟩⟩
/-- z comes up -/
theorem wpAnyI_last {o : Oper} {fuel : Nat} {listed : Array Bool} {a : Act} {w : World} (hr : Region.ready md ops listed = [z]) (ho : ops[z]? = some o) (hw : Region.wanted o (yielded ops a.tmps) = true)
    (h : ∀ K' : Act → World → Prop, Shut (∀ a w, wpAnyI F n P md ops Q S z fuel (listed.setIfInBounds z true) a w → K' a w) → Oper.wpIn F n P o a w K' Q) : wpAnyI F n P md ops Q S z (fuel + 1) listed a w :=
  ⟨fun h0 => absurd (hr ▸ h0) (by simp), by
    rw [hr]
    intro j hj
    obtain rfl := List.mem_singleton.1 hj
    exact wpOpIn_step ho fun K' hK => by rw [if_pos hw]; exact h K' fun a w hW => hK a w ⟨fun e => absurd rfl e, hW⟩⟩
theorem wpAnyI_done {listed : Array Bool} {a : Act} {w : World} (hr : Region.ready md ops listed = []) (h : Q .normal a w) : ∀ fuel, wpAnyI F n P md ops Q S z fuel listed a w
  | 0 => ⟨hr, h⟩
  | _ + 1 => ⟨fun _ => h, by rw [hr]; simp⟩
theorem wpIn_region_i (S : World → Prop) (z : Nat) {id : Nat} {a : Act} {w : World} (hm : P.follows .mixedOrders = true) (hS : S w.drew)
    (h : S w.drew → wpAnyI F n P .any ops Q S z ops.size (Array.replicate ops.size false) a w.drew) : (Code.region id ops true).wpIn F n P Q a w :=
  wpIn_region_any hm (wpAnyIn_of_i _ _ _ _ (h hS))
/-- append whose run is known -/
theorem wpIn_app_run {W W' : World} {o : Oper} {a : Act} {K : Act → World → Prop} (s x : Operand) (t tx : TypeId)
    (ho : o.op = .call { callee := .builtin .append, args := #[s, x], argTypes := #[t, tx] }) {v : Value} (hr : (Builtin.append_ #[t, tx] o.type #[a.eval s, a.eval x]).run P W = .ok v W') (h : K (a.put o.dst v) W') : Oper.wpIn F n P o a W K Q := by
  unfold Oper.wpIn
  refine ⟨?_, ?_⟩
  · simp [Oper.about, ho, resolve, Target.leads, Sem.run_pure]
  · rw [Oper.semAt_plain F _ _ (by rw [ho]; intro c hc'; cases hc')]
    simp [execOp, ho, resolve, invoke, builtin, hr, Result.andThen]
    exact h
end
/-- one element more, that lies in the newest block: as a run -/
theorem run_one_t {P : Program} {W : World} (base : Nat) (t ty e : TypeId) (i : TypeInfo) (z : Value) (size bytes : Nat) (ht : P.underlying t = some (.slice e)) (hi : P.info? e = some i) (hz : i.zero = some z)
    (hsize : i.size = size) (hby : i.bytes = bytes) (hzs : z.cells.size = size) (hsz : 0 < size) (v : Value) (n : Nat) (xs : List Value) (hown : W.ownsRow base e size v n xs)
    (cs : Array Value) (hl : cs.size = size) (h1 : ∀ u ∈ cs.toList, u.oneCell' = true) (hn : n + 1 ≤ 1000000000) (hbs : bytes ≤ 1000) (hbase : base ≤ W.heap.size) :
    ∃ v' w', (Builtin.append_ #[t, t] ty #[v, .slice (some ⟨W.heap.size, 0, none⟩) 1 1]).run P (W.alloc (.cells cs e)) = .ok v' w' ∧ w'.ownsRow base e size v' (n + 1) (xs ++ cs.toList) ∧ Fr (fun k => v.ownBlock = some k) W w' ∧ (∀ k, v'.ownBlock = some k → v.ownBlock = some k ∨ W.heap.size ≤ k) := by
  have hnb : (n + 1) * bytes ≤ 140737488355328 := Nat.le_trans (Nat.mul_le_mul hn hbs) (by decide)
  have h63 : n + 1 ≤ maxLen := by unfold maxLen; omega
  have hx : (hown.alloc (.cells cs e)) = hown.alloc (.cells cs e) := rfl
  have hl1 : cs.toList.length = 1 * size := by simpa using hl
  obtain ⟨v', w', hr, h2, h3, h4⟩ := run_append_own (P := P) (W.alloc (.cells cs e)) base t ty e i z size bytes ht hi hz hsize hby hzs hsz v n xs (hown.alloc _) ⟨W.heap.size, 0, none⟩ 1 1 cs.toList hl1 (cells_new W cs e) h1 h63 hnb (by simp; omega)
  have htie := run_append_tie (W.alloc (.cells cs e)) base t ty e i z size bytes ht hi hz hsize hby v n xs (hown.alloc _) ⟨W.heap.size, 0, none⟩ 1 1 cs.toList hl1 (cells_new W cs e) h1 h63 hnb hr
  refine ⟨v', w', hr, h2, (((Fr.refl _ W).alloc _).grown h3 fun k hk => .inr hk), fun k hk => (htie k hk).imp id fun e => by simp at e; omega⟩
end Go.Proofs.YtlkeomcillencaaGreat
end
section
/- Rows of any elements: append(append([]T{}, old...), one), append(append([]T{}, l[:i]...), l[i+1:]...), as run equations. -/
namespace Go.Proofs.YtlkeomcillencaaGreat
open Go Go.RowKit Go.Lib

theorem add_g (g o j : Nat) : (⟨g, o, none⟩ : Addr).add j = ⟨g, o + j, none⟩ := by
  unfold Addr.add
  split
  · simp_all
  · rfl
/-- append, where its run is known -/
theorem wpList_app_g {P : Program} {ops : Array Oper} {rest : List Oper} {o : Oper} {a : Act} {w W' : World} {Q : Exit → Act → World → Prop} (hgd : o.guard = none) (s x : Operand) (t tx : TypeId) (ho : o.op = .call { callee := .builtin .append, args := #[s, x], argTypes := #[t, tx] })
    {v : Value} (hr : (Builtin.append_ #[t, tx] o.type #[a.eval s, a.eval x]).run P w = .ok v W') (h : wpList P ops Q rest (a.put o.dst v) W') : wpList P ops Q (o :: rest) a w := by
  refine wpList_plain hgd fun _ hK => ?_
  unfold Oper.wp execOp
  simp only [ho, resolve, invoke, builtin, Sem.run_bind, Sem.run_pure, Result.andThen_ok, List.map_toArray, List.map_cons, List.map_nil, hr]
  exact hK _ _ h
section
variable {P : Program} {w : World} {base : Nat} {e : TypeId} {size n : Nat} {xs : List Value}
theorem src_row (t : TypeId) (ht : P.underlying t = some (.slice e)) {A : Option Addr} {c : Nat} (h : w.ownsRow base e size (.slice A n c) n xs) (h1 : ∀ u ∈ xs, u.oneCell' = true) : Src P size t (.slice A n c) n xs w := by
  rcases h.2 with ⟨k1, k2⟩ | ⟨g, cap, cur, k1, k3, k4, k5, _, k6, k7⟩
  · have h3 : xs = [] := List.length_eq_zero_iff.1 (by rw [h.1, k2, Nat.zero_mul])
    subst h3
    subst k2
    injection k1 with q1 q2 q3
    subst q1
    exact Src.ofNil w ht c
  · injection k1 with q1 q2 q3
    subst q1
    exact Src.ofSlice w ht ⟨g, 0, none⟩ n c xs h.1 (fun j u hu => h.cells (g := g) rfl j u hu) h1
theorem own_empty (W : World) (e : TypeId) (size : Nat) : (W.alloc (.cells #[] e)).ownsRow W.heap.size e size (.slice (some ⟨W.heap.size, 0, none⟩) 0 0) 0 [] :=
  ⟨by simp, .inr ⟨W.heap.size, 0, #[], rfl, Nat.le_refl _, heap_alloc_new W _, by simp, by decide, by simp, by simp⟩⟩
/-- all of a row, into a new one -/
theorem copy_runs (t : TypeId) (i0 : TypeInfo) (z : Value) (bytes : Nat) (ht : P.underlying t = some (.slice e)) (hi : P.info? e = some i0) (hz : i0.zero = some z) (hsz : i0.size = size) (hby : i0.bytes = bytes) (hzc : z.cells.size = size)
    {A : Option Addr} {c : Nat} (h : w.ownsRow base e size (.slice A n c) n xs) (h1 : ∀ u ∈ xs, u.oneCell' = true) (hn : n ≤ 1000000) (hb : bytes ≤ 1000) :
    ∃ A1 c1 W2, (Builtin.append_ #[t, t] t #[.slice (some ⟨w.heap.size, 0, none⟩) 0 0, .slice A n c]).run P (w.alloc (.cells #[] e)) = .ok (.slice A1 n c1) W2 ∧
      W2.ownsRow w.heap.size e size (.slice A1 n c1) n xs ∧ Fr (fun _ => False) w W2 := by
  have f1 : Fr (fun _ => False) w (w.alloc (.cells #[] e)) := (Fr.refl _ w).alloc _
  have hx := row_same h fun g hg => f1.block g (h.lt g hg).2 fun e => e
  have hnb : (0 + n) * bytes ≤ 140737488355328 := Nat.le_trans (Nat.mul_le_mul (by omega : 0 + n ≤ 1000000) hb) (by decide)
  obtain ⟨v1, W2, hr1, r1, r2, r3⟩ := run_app_any (P := P) (w.alloc (.cells #[] e)) w.heap.size t t t e i0 z size bytes ht hi hz hsz hby hzc _ 0 [] (own_empty w e size) _ n xs (src_row t ht hx h1) (by unfold maxLen; omega) hnb f1.size
  obtain ⟨A1, c1, rfl⟩ := row_slice r1
  rw [Nat.zero_add, List.nil_append] at r1
  rw [Nat.zero_add] at hr1
  exact ⟨A1, c1, W2, hr1, r1, f1.trans3 r2 fun k hk e => by have : w.heap.size = k := Option.some.inj e; omega⟩
/-- one more, into a new row -/
theorem snoc_runs (t : TypeId) (i0 : TypeInfo) (z : Value) (bytes : Nat) (ht : P.underlying t = some (.slice e)) (hi : P.info? e = some i0) (hz : i0.zero = some z) (hsz : i0.size = size) (hby : i0.bytes = bytes) (hzc : z.cells.size = size) (hs0 : 0 < size)
    {A : Option Addr} {c : Nat} (h : w.ownsRow base e size (.slice A n c) n xs) (h1 : ∀ u ∈ xs, u.oneCell' = true) (hn : n ≤ 1000000) (hb : bytes ≤ 1000) (cs : Array Value) (hc : cs.size = size) (h2 : ∀ u ∈ cs.toList, u.oneCell' = true) :
    ∃ A1 c1 A2 c2 W2 W3, (Builtin.append_ #[t, t] t #[.slice (some ⟨w.heap.size, 0, none⟩) 0 0, .slice A n c]).run P (w.alloc (.cells #[] e)) = .ok (.slice A1 n c1) W2 ∧
      (Builtin.append_ #[t, t] t #[.slice A1 n c1, .slice (some ⟨W2.heap.size, 0, none⟩) 1 1]).run P (W2.alloc (.cells cs e)) = .ok (.slice A2 (n + 1) c2) W3 ∧
      W3.ownsRow w.heap.size e size (.slice A2 (n + 1) c2) (n + 1) (xs ++ cs.toList) ∧ Fr (fun _ => False) w W2 ∧ Fr (fun _ => False) w W3 := by
  obtain ⟨A1, c1, W2, hr1, r1, f2⟩ := copy_runs (P := P) t i0 z bytes ht hi hz hsz hby hzc h h1 hn hb
  obtain ⟨v4, W4, hr4, s1, s2, s3⟩ := run_one_t (P := P) (W := W2) w.heap.size t t e i0 z size bytes ht hi hz hsz hby hzc hs0 _ n _ r1 cs hc h2 (by omega) hb f2.size
  obtain ⟨A2, c2, rfl⟩ := row_slice s1
  exact ⟨A1, c1, A2, c2, W2, W4, hr1, hr4, s1, f2, f2.trans3 s2 fun k hk e => by have := (r1.lt k e).1; omega⟩
theorem slice_gen (t : TypeId) (i0 : TypeInfo) (ht : P.underlying t = some (.slice e)) (hi0 : P.info? e = some i0) (hsz : i0.size = size) (g o n c : Nat) (hc : n ≤ c) (i : Nat) (hi : i < n) :
    (∀ W, (Instr.slice t (.slice (some ⟨g, o, none⟩) n c) none (some (.int .i64 i)) none).run P W = .ok (.slice (some ⟨g, o, none⟩) i c) W) ∧
    ∃ g1 o1, (∀ W, (Instr.slice t (.slice (some ⟨g, o, none⟩) n c) (some (.int .i64 ((i : Int) + 1))) none none).run P W = .ok (.slice (some ⟨g1, o1, none⟩) (n - (i + 1)) (c - (i + 1))) W) ∧ (i + 1 < n → g1 = g ∧ o1 = o + (i + 1) * size) := by
  have hq : ((i : Int) + 1).toNat = i + 1 := by omega
  have he : P.elem t = e := by simp [Program.elem, ht]
  have ht' : P.underlying t = some (.slice (P.elem t)) := by rw [he]; exact ht
  refine ⟨fun W => ?_, ?_⟩
  · rw [run_slice_h W t _ _ _ ht' _ _ (by omega) (by omega)]
    have h3 : ¬ (c = 0) := by omega
    simp [sliced, sizeOf, he, ht, hi0, hsz, go_sem, h3, add_g, typeInfo]
  · by_cases h1 : c = i + 1
    · refine ⟨g, o, fun W => ?_, fun h2 => by omega⟩
      rw [run_slice_l W t _ _ _ ht' _ _ (by omega) (by omega)]
      simp [sliced, sizeOf, he, ht, hi0, hsz, go_sem, h1, hq, typeInfo]
    · refine ⟨g, o + (i + 1) * size, fun W => ?_, fun h2 => ⟨rfl, rfl⟩⟩
      rw [run_slice_l W t _ _ _ ht' _ _ (by omega) (by omega)]
      have h2 : ¬ c - (i + 1) = 0 := by omega
      simp [sliced, sizeOf, he, ht, hi0, hsz, go_sem, h1, h2, hq, add_g, typeInfo]
/-- one taken out, into a new row -/
theorem del_runs_g (t : TypeId) (i0 : TypeInfo) (z : Value) (bytes : Nat) (ht : P.underlying t = some (.slice e)) (hi0 : P.info? e = some i0) (hz : i0.zero = some z) (hsz : i0.size = size) (hby : i0.bytes = bytes) (hzc : z.cells.size = size)
    {A : Option Addr} {c : Nat} (h : w.ownsRow base e size (.slice A n c) n xs) (h1 : ∀ u ∈ xs, u.oneCell' = true) (hn : n ≤ 1000000) (hb : bytes ≤ 1000) {i : Nat} (hi : i < n) :
    ∃ g g1 o1 A1 c1 A2 c2 W2 W3, A = some ⟨g, 0, none⟩ ∧ n ≤ c ∧
      (∀ W, (Instr.slice t (.slice (some ⟨g, 0, none⟩) n c) none (some (.int .i64 i)) none).run P W = .ok (.slice (some ⟨g, 0, none⟩) i c) W) ∧
      (∀ W, (Instr.slice t (.slice (some ⟨g, 0, none⟩) n c) (some (.int .i64 ((i : Int) + 1))) none none).run P W = .ok (.slice (some ⟨g1, o1, none⟩) (n - (i + 1)) (c - (i + 1))) W) ∧
      (Builtin.append_ #[t, t] t #[.slice (some ⟨w.heap.size, 0, none⟩) 0 0, .slice (some ⟨g, 0, none⟩) i c]).run P (w.alloc (.cells #[] e)).drew = .ok (.slice A1 i c1) W2 ∧
      (Builtin.append_ #[t, t] t #[.slice A1 i c1, .slice (some ⟨g1, o1, none⟩) (n - (i + 1)) (c - (i + 1))]).run P W2 = .ok (.slice A2 (n - 1) c2) W3 ∧
      W3.ownsRow w.heap.size e size (.slice A2 (n - 1) c2) (n - 1) (xs.take (i * size) ++ xs.drop ((i + 1) * size)) ∧ Fr (fun _ => False) w W2 ∧ Fr (fun _ => False) w W3 := by
  have h' := h
  rcases h.2 with ⟨_, k2⟩ | ⟨g, cap, cur, hv, hbg, hg, hnc, hcm, hcs, htake⟩
  · omega
  injection hv with q1 q2 q3
  subst q1
  subst q3
  obtain ⟨hs1, g1, o1, hs2, hg1⟩ := slice_gen (P := P) t i0 ht hi0 hsz g 0 n c hnc i hi
  obtain ⟨W1, hW1⟩ : ∃ W1, (w.alloc (.cells #[] e)).drew = W1 := ⟨_, rfl⟩
  have f1 : Fr (fun _ => False) w W1 := by rw [← hW1]; exact ((Fr.refl _ w).alloc _).drew
  have z1 : W1.heap.size = w.heap.size + 1 := by rw [← hW1]; simp
  have hown : W1.ownsRow w.heap.size e size (.slice (some ⟨w.heap.size, 0, none⟩) 0 0) 0 [] := by rw [← hW1]; exact own_empty w e size
  have hgl : g < w.heap.size := blk_lt hg
  have hcell : ∀ (W : World), Fr (fun _ => False) w W → ∀ j u, xs[j]? = some u → W.cell? ⟨g, 0 + j, none⟩ = some u := fun W hf j u hu => by
    rw [hf.cell (p := ⟨g, 0 + j, none⟩) hgl (fun e => e)]
    have := h'.cells (g := g) rfl j u hu
    rwa [add_g] at this
  have hle1 : i * size ≤ n * size := Nat.mul_le_mul_right _ (by omega)
  have hle2 : (i + 1) * size ≤ n * size := Nat.mul_le_mul_right _ hi
  have l1 : (xs.take (i * size)).length = i * size := by rw [List.length_take, h.1]; omega
  have l3 : (xs.drop ((i + 1) * size)).length = (n - (i + 1)) * size := by rw [List.length_drop, h.1, Nat.sub_mul]
  have hb1 : (0 + i) * bytes ≤ 140737488355328 := Nat.le_trans (Nat.mul_le_mul (by omega : 0 + i ≤ 1000000) hb) (by decide)
  have hb2 : (i + (n - (i + 1))) * bytes ≤ 140737488355328 := Nat.le_trans (Nat.mul_le_mul (by omega : i + (n - (i + 1)) ≤ 1000000) hb) (by decide)
  have src1 : Src P size t (.slice (some ⟨g, 0, none⟩) i c) i (xs.take (i * size)) W1 :=
    Src.ofSlice W1 ht ⟨g, 0, none⟩ i c _ l1 (fun j u hu => by
      rw [add_g]
      rw [List.getElem?_take] at hu
      split at hu
      · exact hcell W1 f1 j u hu
      · cases hu) (fun u hu => h1 u (List.mem_of_mem_take hu))
  obtain ⟨v1, W2, hr1, r1, r2, r3⟩ := run_app_any (P := P) W1 w.heap.size t t t e i0 z size bytes ht hi0 hz hsz hby hzc _ 0 [] hown _ i _ src1 (by unfold maxLen; omega) hb1 (by omega)
  obtain ⟨A1, c1, rfl⟩ := row_slice r1
  rw [Nat.zero_add, List.nil_append] at r1
  rw [Nat.zero_add] at hr1 r3
  have f2 : Fr (fun _ => False) w W2 := f1.trans3 r2 fun k hk e => by have : w.heap.size = k := Option.some.inj e; omega
  have src2 : Src P size t (.slice (some ⟨g1, o1, none⟩) (n - (i + 1)) (c - (i + 1))) (n - (i + 1)) (xs.drop ((i + 1) * size)) W2 :=
    Src.ofSlice W2 ht ⟨g1, o1, none⟩ _ _ _ l3 (fun j u hu => by
      have hj := (List.getElem?_eq_some_iff.1 hu).1
      have hpos : i + 1 < n := by
        rcases Nat.lt_or_ge (i + 1) n with hh | hh
        · exact hh
        · rw [l3, show n - (i + 1) = 0 by omega, Nat.zero_mul] at hj; omega
      obtain ⟨rfl, rfl⟩ := hg1 hpos
      rw [add_g]
      rw [List.getElem?_drop] at hu
      have := hcell W2 f2 _ u hu
      rwa [← Nat.add_assoc] at this) (fun u hu => h1 u (List.mem_of_mem_drop hu))
  have hz2' := r2.size
  obtain ⟨v2, W3, hr2, s1, s2, s3⟩ := run_app_any (P := P) W2 w.heap.size t t t e i0 z size bytes ht hi0 hz hsz hby hzc _ i _ r1 _ (n - (i + 1)) _ src2 (by unfold maxLen; omega) hb2 (by omega)
  obtain ⟨A2, c2, rfl⟩ := row_slice s1
  have hlen : i + (n - (i + 1)) = n - 1 := by omega
  rw [hlen] at s1 s3 hr2
  refine ⟨g, g1, o1, A1, c1, A2, c2, W2, W3, rfl, hnc, hs1, hs2, by rw [hW1]; exact hr1, hr2, s1, f2, ?_⟩
  exact f2.trans3 s2 fun k hk e => by
    rcases r3 k e with e2 | e2
    · have : w.heap.size = k := Option.some.inj e2; omega
    · omega
end
end Go.Proofs.YtlkeomcillencaaGreat
end
section
/- Rows of numbers of the call's own: slices.Values as a function that tells, in words of what is owned. -/
namespace Go.Proofs.YtlkeomcillencaaGreat
open Go Go.RowKit Go.Lib Go.Sort Go.Shelf
attribute [local go_sem] Oper.semAt_some

theorem reads_ownI {base : Nat} {w : World} {A : Option Addr} {n c : Nat} {xs : List Int} (h : OwnI base w (.slice A n c) xs) : ReadsI w A xs := fun h0 => by
  rcases h.2 with ⟨h1, h2⟩ | ⟨g, cap, cur, h1, h3, h4, h5, _, h6, h7⟩
  · omega
  · injection h1 with q1 q2 q3
    subst q1
    rw [Nat.mul_one] at h7
    refine ⟨g, 0, rfl, blk_lt h4, fun j hj => ?_⟩
    rw [Nat.zero_add, blk_cell h4 j, own_get (base := 0) (w := w) (cap := 0) h4 h7 j hj]
set_option maxRecDepth 100000 in
set_option maxHeartbeats 4000000 in
theorem values_seqI (base B : Nat) (v : Value) (xs : List Int) (w : World) (hxs : xs.length ≤ 1000000) (hb : w.heap[B]? = some (.cells #[v] 56 (0, 0))) (hr : OwnI base w v xs) :
    SeqF Tryz.prog 116 #[.pointer (some ⟨B, 0, none⟩)] encI (rowY B v) xs w := fun l J Jx X V hs hYl hX hJ hJx hY h0 => by
  have hbV := (hs B (.inl rfl)).trans hb
  have hrV : OwnI base V v xs := own_kept hr fun g hg => hs g (.inr hg)
  obtain ⟨A, c, rfl⟩ := row_slice hr
  have c0 : V.cell? ⟨B, 0, none⟩ = some (.slice A xs.length c) := (blk_cell hbV 0).trans rfl
  have HR := Lib.hid (reads_ownI hrV)
  have HO := Lib.hid hrV
  have HY := Lib.hid hY
  have HX := Lib.hid hX
  have h00 : Hid (∃ X1, GrowX X X1 V V ∧ Fr X V V ∧ J [] X1 V) := ⟨X, GrowX.refl fun k hk => (hX k hk).1, Fr.refl _ _, h0⟩
  clear hb hr hs hrV hbV hY hX h0 hJ hJx hYl
  refine (callsIn_wide (n := 20)).1 ?_
  refine callsIn_of_wp Tryz.func116 rfl trivial ?_ rfl
  simp only [Tryz.ntmps116, List.size_toArray, List.length_cons, List.length_nil, Nat.reduceAdd, Nat.reduceSub, Array.replicate_succ, Array.replicate_zero, List.push_toArray, List.append_toArray, List.nil_append, List.cons_append]
  gi_wp2
  gi_loopw [7] (fun c1 wr => ∃ k : Nat, c1 = .int .i64 k ∧ k ≤ xs.length ∧ Hid (∃ X1, GrowX X X1 V wr ∧ Fr X V wr ∧ J (xs.take k) X1 wr)) (fun c1 _ => xs.length - (Go.RowKit.intOf c1).toNat)
  case atStart => exact ⟨0, rfl, Nat.zero_le _, h00⟩
  case round =>
    obtain ⟨k, rfl, hk, HJ⟩ := hrel
    clear h00
    obtain ⟨X1, hg1, hf1, hj1⟩ := HJ.out
    by_cases hlt : k < xs.length
    · obtain ⟨g, o, rfl, hg, hcell⟩ := HR.out (by omega)
      obtain ⟨x, hx⟩ : ∃ x, xs[k] = x := ⟨_, rfl⟩
      have hgY : rowY B (.slice (some ⟨g, o, none⟩) xs.length c) g := by
        rcases HO.out.2 with ⟨e, _⟩ | ⟨g2, cap, cur, e, _⟩
        · cases e
        · cases e; exact .inr rfl
      have e0 : wr.cell? ⟨g, o + k, none⟩ = some (.int .i64 x) := by
        rw [hf1.cell (p := ⟨g, o + k, none⟩) hg (fun e => (HX.out g e).2 hgY), hcell k hlt, hx]
      have hsp : xs.take k ++ x :: xs.drop (k + 1) = xs := by rw [← hx, ← List.drop_eq_getElem_cons hlt]; exact List.take_append_drop k xs
      have htk : xs.take (k + 1) = xs.take k ++ [x] := by rw [List.take_succ_eq_append_getElem hlt, hx]
      have hyy := HY.out (xs.take k) x (xs.drop (k + 1)) X1 wr hsp hg1 hj1 hf1
      obtain ⟨fn, tmps, assign, body, hy, hR⟩ := hyy
      dsimp only [encI] at hy
      have HT := Lib.hid (And.intro htk (And.intro hsp (And.intro hg1 hf1)))
      clear hx htk hsp hg hcell hg1 hf1 hj1 hgY
      gi_wp2_with fail
      refine (round_wide (.inl rfl) hR).mono ?_
      rintro e W3 ⟨X2, g2, f2, (⟨rfl, hJ3⟩ | ⟨rfl, hJx3⟩)⟩
      · obtain ⟨htk, hsp, hg1, hf1⟩ := HT.out
        have hN : Hid (∃ X1, GrowX X X1 V W3 ∧ Fr X V W3 ∧ J (xs.take (k + 1)) X1 W3) := ⟨X2, hg1.trans g2 hf1.size, hf1.trans3 f2 fun k hk e => (hg1 k e).2 hk, by rw [htk]; exact hJ3⟩
        clear htk hsp hg1 hf1 g2 f2 hJ3 hR hy
        gi_wp2_with fail
        go_roundw
        case rel => exact ⟨k + 1, by go_num, by omega, hN⟩
        case measure => simp [Go.RowKit.intOf]; omega
      · clear hR hy
        gi_wp2_with fail
        refine bodyPost_ret (results_none rfl _ _ _) rfl ?_
        obtain ⟨htk, hsp, hg1, hf1⟩ := HT.out
        exact ⟨⟨_, rfl⟩, X2, hg1.trans g2 hf1.size, hf1.trans3 f2 fun k hk e => (hg1 k e).2 hk, .inr ⟨_, xs.drop (k + 1), by simpa using hsp, hJx3⟩⟩
    · obtain rfl : k = xs.length := by omega
      rw [List.take_length] at hj1
      have HQ := Lib.hid (And.intro hg1 (And.intro hf1 hj1))
      clear hg1 hf1 hj1
      gi_wp2_with fail
      go_end0
      obtain ⟨hg1, hf1, hj1⟩ := HQ.out
      exact ⟨⟨_, rfl⟩, X1, hg1, hf1, .inl hj1⟩
theorem tellsI_tale {base : Nat} {w : World} {F : Value} {xs : List Int} (h : TaleAt base w F xs) (hl : xs.length ≤ 1000000) : ∃ Y, (∀ b, Y b → base ≤ b) ∧ TellsF Tryz.prog encI w F Y xs := by
  obtain ⟨B, v, h1, rfl, h3, h4, h5⟩ := h
  refine ⟨rowY B v, fun b hb => ?_, _, _, rfl, values_seqI base B v xs w hl h3 h5, fun b hb => ?_, enters_of Tryz.func116 (by kernel_rfl) rfl⟩
  · rcases hb with rfl | hb
    · exact h1
    · exact (h5.lt b hb).1
  · rcases hb with rfl | hb
    · exact blk_lt h3
    · exact (h5.lt b hb).2
end Go.Proofs.YtlkeomcillencaaGreat
end
