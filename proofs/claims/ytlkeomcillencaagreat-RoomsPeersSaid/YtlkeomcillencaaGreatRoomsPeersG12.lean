/- Texts of this proof, one behind the other. -/
import Derived.Test.YtlkeomcillencaaGreatRoomsPeersG11
import Derived.Lib.Overlaps
import Derived.Lib.AppendZerosOnto
import Derived.Shelf.RegionOpenPlain
import Derived.Shelf.Spec.SlicesInsert
import Derived.Test.YtlkeomcillencaaGreatRoomsPeersG2
import Derived.OpenShut
import Derived.Test.YtlkeomcillencaaGreatRoomsPeersG4
import Derived.Test.YtlkeomcillencaaGreatRoomsPeersG5
import Derived.Test.YtlkeomcillencaaGreatRoomsPeersG9
set_option linter.unusedVariables false
set_option linter.unusedSimpArgs false
section
/- Layer 19: slices.Insert at members; Add. -/
namespace Go.Proofs.YtlkeomcillencaaGreat
open Go Go.RowKit Go.Lib

theorem encM_one {u : Value} {xs : List Mem} (h : u ∈ xs.flatMap encM) : u.oneCell' = true := by
  obtain ⟨x, _, hx⟩ := List.mem_flatMap.1 h
  simp only [encM, List.mem_cons, List.not_mem_nil, or_false] at hx
  rcases hx with rfl | rfl | rfl <;> rfl
theorem ins_take {A B : List Value} {p : Nat} (hp : p ≤ A.length) {c : Array Value} (h1 : ∀ j, j < p → c[j]? = A[j]?) (h2 : ∀ j, j < B.length → c[p + j]? = B[j]?) (h3 : ∀ j, p + j < A.length → c[p + B.length + j]? = A[p + j]?) :
    c.toList.take (A.length + B.length) = A.take p ++ B ++ A.drop p := by
  apply List.ext_getElem?
  intro j
  have hpl : (A.take p).length = p := by rw [List.length_take]; omega
  by_cases a : j < p
  · rw [List.getElem?_take_of_lt (by omega), Array.getElem?_toList, h1 j a, List.append_assoc, List.getElem?_append_left (by omega), List.getElem?_take_of_lt a]
  · by_cases b : j < p + B.length
    · rw [List.getElem?_take_of_lt (by omega), Array.getElem?_toList]
      have := h2 (j - p) (by omega)
      rw [show p + (j - p) = j by omega] at this
      rw [this, List.getElem?_append_left (by rw [List.length_append]; omega), List.getElem?_append_right (by omega), hpl]
    · by_cases d : j < A.length + B.length
      · rw [List.getElem?_take_of_lt d, Array.getElem?_toList]
        have := h3 (j - p - B.length) (by omega)
        rw [show p + B.length + (j - p - B.length) = j by omega] at this
        rw [this, List.getElem?_append_right (by rw [List.length_append]; omega), List.length_append, hpl, List.getElem?_drop]
        congr 1; omega
      · rw [List.getElem?_take_eq_none (by omega), List.getElem?_eq_none (by rw [List.length_append, List.length_append, List.length_drop]; omega)]
theorem flat_drop (xs : List Mem) (i : Nat) : (xs.flatMap encM).drop (i * 3) = (xs.drop i).flatMap encM := by
  have h := List.take_append_drop i xs
  have h2 : (xs.flatMap encM) = (xs.take i).flatMap encM ++ (xs.drop i).flatMap encM := by rw [← List.flatMap_append, h]
  by_cases hi : i ≤ xs.length
  · rw [h2, List.drop_append, List.drop_of_length_le (by rw [flat3, List.length_take]; omega), flat3, List.length_take, show i * 3 - min i xs.length * 3 = 0 by rw [Nat.min_eq_left hi]; omega]
    simp
  · rw [List.drop_of_length_le (by rw [flat3]; omega), List.drop_of_length_le (by omega)]; rfl
theorem encM_one1 {m : Mem} {u : Value} (h : u ∈ encM m) : u.oneCell' = true := by
  simp only [encM, List.mem_cons, List.not_mem_nil, or_false] at h
  rcases h with rfl | rfl | rfl <;> rfl
theorem flat_one {xs : List Mem} : ∀ u ∈ xs.flatMap encM, u.oneCell' = true := fun u hu => by
  obtain ⟨m, _, h⟩ := List.mem_flatMap.1 hu
  exact encM_one1 h
/-- what slices.Insert leaves -/
def InsP (base : Nat) (W : World) (v : Value) (ys : List Mem) (e : Ending) (w' : World) : Prop := (∃ A c, e = .returned (.slice A ys.length c) ∧ OwnM base w' (.slice A ys.length c) ys ∧ Tie W v (.slice A ys.length c)) ∧ Fr (fun k => v.ownBlock = some k) W w'
set_option maxRecDepth 100000 in
set_option maxHeartbeats 8000000 in
theorem insM_end {base : Nat} {W : World} {A : Option Addr} {c : Nat} {xs : List Mem} (h : OwnM base W (.slice A xs.length c) xs) (m : Mem) {N : Nat} (hk : W.heap[N]? = some (.cells #[.int .i64 m.1, .bool m.2.1, .bool m.2.2] 71 (0, 0))) (hl : xs.length ≤ 1000000) (hb : base ≤ W.heap.size) :
    Calls Tryz.prog 78 #[.slice A xs.length c, .int .i64 xs.length, .slice (some ⟨N, 0, none⟩) 1 1] W (InsP base W (.slice A xs.length c) (xs ++ [m])) := by
  obtain ⟨i0, hi0, hz0, hz1, hz2⟩ := info_parts Tryz.infoMb
  obtain ⟨v', w', hr, r1, r2, r3⟩ := run_app_any (P := Tryz.prog) W base 88 88 88 71 i0 _ 3 16 Tryz.underlying88 hi0 hz0 hz1 hz2 rfl _ xs.length (xs.flatMap encM) h (.slice (some ⟨N, 0, none⟩) 1 1) 1 (encM m)
    (Src.ofSlice W Tryz.underlying88 ⟨N, 0, none⟩ 1 1 (encM m) rfl (fun j u hu => by
      rw [add_at, Nat.zero_add, blk_cell hk j, ← hu]; simp [encM]) (fun u hu => encM_one1 hu)) (by unfold maxLen; omega) (by omega) hb
  obtain ⟨A2, c2, rfl⟩ := row_slice r1
  have hcap : A = none ∧ xs.length = 0 ∧ c = 0 ∨ (∃ g, A = some ⟨g, 0, none⟩) ∧ xs.length ≤ c ∧ c ≤ 9223372036854775807 := by
    rcases h.2 with ⟨h2, h3⟩ | ⟨g', cap', cur, h2, _, _, h5, h6, _⟩
    · injection h2 with e1 e2 e3; exact .inl ⟨e1, h3, e3⟩
    · injection h2 with e1 e2 e3
      subst e3
      exact .inr ⟨⟨g', e1⟩, h5, by unfold maxLen at h6; omega⟩
  have HR := Lib.hid (And.intro (ownM_snoc r1) (And.intro r2 r3))
  obtain ⟨n, hn⟩ : ∃ n, xs.length = n := ⟨_, rfl⟩
  have HN := Lib.hid hn
  rw [hn] at hr hcap ⊢
  have hn6 : n ≤ 1000000 := by omega
  clear h hk hb r1 r2 r3 hi0 hz0 hz1 hz2 hn hl
  rcases hcap with ⟨rfl, rfl, rfl⟩ | ⟨⟨g, rfl⟩, hnc, hc63⟩
  · go_enter Tryz.func78, Tryz.ntmps78
    go_wp2_with (at_builtin; refine Lib.wpList_append_run _ rfl _ _ _ _ rfl _ _ rfl rfl _ _ hr ?_)
    go_ret
    obtain ⟨a, b, d⟩ := HR.out
    rw [HN.out] at a
    refine ⟨⟨A2, c2, by rw [List.length_append, HN.out]; rfl, by rw [List.length_append, HN.out]; exact a, fun k hk hlt => ?_⟩, b⟩
    rcases d k (by rw [List.length_append] at hk; exact hk) with e | e
    · exact e
    · omega
  · by_cases hcn : c = n
    all_goals
      go_enter Tryz.func78, Tryz.ntmps78
      go_wp2_with (at_builtin; refine Lib.wpList_append_run _ rfl _ _ _ _ rfl _ _ rfl rfl _ _ hr ?_)
      go_ret
      obtain ⟨a, b, d⟩ := HR.out
      rw [HN.out] at a
      refine ⟨⟨A2, c2, by rw [List.length_append, HN.out]; rfl, by rw [List.length_append, HN.out]; exact a, fun k hk hlt => ?_⟩, b⟩
      rcases d k (by rw [List.length_append] at hk; exact hk) with e | e
      · exact e
      · omega
theorem ins_flat (xs : List Mem) (i : Nat) (m : Mem) : (xs.take i ++ m :: xs.drop i).flatMap encM = (xs.flatMap encM).take (i * 3) ++ encM m ++ (xs.flatMap encM).drop (i * 3) := by
  rw [List.flatMap_append, List.flatMap_cons, flat_take, flat_drop, List.append_assoc]
theorem overlaps_no {W : World} {N g : Nat} {m : Mem} (hNg : N ≠ g) (hk : W.heap[N]? = some (.cells #[.int .i64 m.1, .bool m.2.1, .bool m.2.2] 71 (0, 0))) {cur : Array Value} {tB : TypeId} (hg : W.heap[g]? = some (.cells cur tB (0, 0))) (hz : cur.size ≠ 0) (o lb cb : Nat) :
    (callFunc 105 #[.slice (some ⟨N, 0, none⟩) 1 1, .slice (some ⟨g, o, none⟩) lb cb]).run Tryz.prog W = .ok (.value (.bool false)) W := by
  rw [run_callFunc_extern Tryz.func105 (by kernel_rfl) (by kernel_rfl) (by kernel_rfl) (e := Extern.SlicesOverlaps.overlaps #[88, 88] #[4]) (by kernel_rfl),
    Lib.run_overlaps_apart W 88 4 71 Tryz.underlying88 3 Tryz.sizeOf71 ⟨N, 0, none⟩ ⟨g, o, none⟩ 1 1 lb cb hNg 71 tB 3 cur.size (by simp [World.shape?, hk]) (by simp [World.shape?, hg]) hz (blk_free hk _) (by simp [World.frozen?, hk])]
  rfl
set_option maxRecDepth 100000 in
set_option maxHeartbeats 8000000 in
theorem insM_shift {base : Nat} {W : World} {g c : Nat} {xs : List Mem} (h : OwnM base W (.slice (some ⟨g, 0, none⟩) xs.length c) xs) (m : Mem) {N : Nat} (hk : W.heap[N]? = some (.cells #[.int .i64 m.1, .bool m.2.1, .bool m.2.2] 71 (0, 0))) (hNg : N ≠ g) (hl : xs.length ≤ 1000000)
    (i : Nat) (hi : i < xs.length) (hroom : xs.length + 1 ≤ c) :
    Calls Tryz.prog 78 #[.slice (some ⟨g, 0, none⟩) xs.length c, .int .i64 i, .slice (some ⟨N, 0, none⟩) 1 1] W (InsP base W (.slice (some ⟨g, 0, none⟩) xs.length c) (xs.take i ++ m :: xs.drop i)) := by
  obtain ⟨i0, hi0, hz0, hz1, hz2⟩ := info_parts Tryz.infoMb
  obtain ⟨cur, hgr, hcm, hcs, hbg⟩ : ∃ cur, W.heap[g]? = some (.cells cur 71 (0, 0)) ∧ c ≤ maxLen ∧ cur.size = c * 3 ∧ base ≤ g := by
    rcases h.2 with ⟨h2, _⟩ | ⟨g', cap', cur, h2, h3, h4, h5, h6, h7, _⟩
    · cases h2
    · injection h2 with e1 _ e3
      injection e1 with e1; injection e1 with e1
      subst e1; subst e3
      exact ⟨cur, h4, h6, h7, h3⟩
  have hc63 : c ≤ 9223372036854775807 := by unfold maxLen at hcm; omega
  have hov : ∀ lb cb, (callFunc 105 #[.slice (some ⟨N, 0, none⟩) 1 1, .slice (some ⟨g, (i + 1) * 3, none⟩) lb cb]).run Tryz.prog W = .ok (.value (.bool false)) W := fun lb cb => overlaps_no hNg hk hgr (by omega) _ lb cb
  obtain ⟨A, hA⟩ : ∃ A, xs.flatMap encM = A := ⟨_, rfl⟩
  have hAl : A.length = xs.length * 3 := by rw [← hA, flat3]
  have hcell : ∀ j, j < xs.length * 3 → W.cell? ⟨g, j, none⟩ = A[j]? := fun j hj => by rw [← hA]; exact World.ownsRow.cellAt h j hj
  have hsz : (Tryz.prog.info? 71).map (·.size) = some 3 := by rw [hi0]; simp [hz1]
  have hdl : (A.drop (i * 3)).length = (xs.length - i) * 3 := by rw [List.length_drop, hAl, Nat.sub_mul]
  have hone : ∀ u ∈ A, u.oneCell' = true := fun u hu => encM_one (by rw [hA]; exact hu)
  have hsome : ∀ j, j < c * 3 → (W.cell? ⟨g, j, none⟩).isSome = true ∧ W.frozen? ⟨g, j, none⟩ = false := fun j hj => row_spare h j hj
  have hcp1 : ∀ ty dc sc, (Builtin.copy_ #[88, 88] ty #[.slice (some ⟨g, (i + 1) * 3, none⟩) (xs.length - i) dc, .slice (some ⟨g, i * 3, none⟩) (xs.length + 1 - i) sc]).run Tryz.prog W.drew = .ok (goInt (xs.length - i)) (W.drew.setCells g ((i + 1) * 3) (A.drop (i * 3))) := fun ty dc sc => by
    have := run_copy_flat (P := Tryz.prog) W.drew 88 88 ty 71 3 g ((i + 1) * 3) (xs.length - i) dc ⟨g, i * 3, none⟩ (xs.length + 1 - i) sc (A.drop (i * 3)) Tryz.underlying88 hsz (by rw [hdl]; congr 1; simp only [Nat.min_def]; split <;> omega)
      (fun j v hj => by
        rw [Addr.add_lit]
        rw [List.getElem?_drop] at hj
        have hj2 := (List.getElem?_eq_some_iff.1 hj).1
        exact (hcell (i * 3 + j) (by omega)).trans hj)
      (fun j hj => (hsome _ (by rw [hdl] at hj; omega)).1) (fun j hj => (hsome _ (by rw [hdl] at hj; omega)).2) (fun v hv => hone v (List.mem_of_mem_drop hv))
    rw [this]
    congr 2
    simp only [Nat.min_def]; split <;> omega
  obtain ⟨W1, hW1⟩ : ∃ W1, W1 = W.drew.setCells g ((i + 1) * 3) (A.drop (i * 3)) := ⟨_, rfl⟩
  have hcp2 : ∀ (V : World), (∀ x, V.cell? x = W1.cell? x) → (∀ x, V.frozen? x = W1.frozen? x) → ∀ ty dc, (Builtin.copy_ #[88, 88] ty #[.slice (some ⟨g, i * 3, none⟩) (xs.length + 1 - i) dc, .slice (some ⟨N, 0, none⟩) 1 1]).run Tryz.prog V = .ok (goInt 1) (V.setCells g (i * 3) (encM m)) := fun V hVc hVf ty dc => by
    have := run_copy_flat (P := Tryz.prog) V 88 88 ty 71 3 g (i * 3) (xs.length + 1 - i) dc ⟨N, 0, none⟩ 1 1 (encM m) Tryz.underlying88 hsz (by show 3 = _; simp only [Nat.min_def]; split <;> omega)
      (fun j v hj => by
        rw [Addr.add_lit, hVc, hW1, World.cell?_setCells_out _ _ _ _ _ (fun e _ => absurd e hNg), Nat.zero_add]
        exact (blk_cell hk j).trans (by rw [← hj]; simp [encM]))
      (fun j hj => by
        have hj3 : j < 3 := hj
        rw [hVc, hW1]
        exact Go.Proofs.isSome_setCells g _ ((i + 1) * 3) W.drew (fun t ht => (hsome ((i + 1) * 3 + t) (by rw [hdl] at ht; omega)).1) (i * 3 + j) (hsome (i * 3 + j) (by omega)).1)
      (fun j hj => by
        have hj3 : j < 3 := hj
        rw [hVf, hW1, World.frozen?_setCells]; exact (hsome _ (by omega)).2) (fun v hv => encM_one1 hv)
    rw [this]
    congr 2
    simp only [Nat.min_def]; split <;> omega
  rw [← hW1] at hcp1
  have hF1 : Fr (fun k => k = g) W W1 := by rw [hW1]; exact fr_setCells (X := fun k => k = g) (a := W) (b := g) (.inl rfl) _ _ _ (Fr.refl _ W).drew
  obtain ⟨c1, hg1, hs1, hc1⟩ := heap_setCells (b := g) (A.drop (i * 3)) ((i + 1) * 3) W.drew cur hgr
  rw [← hW1] at hg1
  have hfin : ∀ V, (∃ q, V = (W1.drewN q).setCells g (i * 3) (encM m)) → OwnM base V (.slice (some ⟨g, 0, none⟩) (xs.length + 1) c) (xs.take i ++ m :: xs.drop i) ∧ Fr (fun k => k = g) W V := fun V ⟨q, hV⟩ => by
    obtain ⟨c2, hg2, hs2, hc2⟩ := heap_setCells (b := g) (encM m) (i * 3) (W1.drewN q) c1 hg1
    rw [← hV] at hg2
    have hlen : (xs.take i ++ m :: xs.drop i).length = xs.length + 1 := by rw [List.length_append, List.length_cons, List.length_take, List.length_drop]; omega
    have h3 : (encM m).length = 3 := rfl
    have htk := ins_take (A := A) (B := encM m) (p := i * 3) (c := c2) (by omega) (fun j hj => by
        rw [hc2, if_neg (by omega), hc1, if_neg (by omega)]
        have := blk_cell hgr j
        rw [← this]; exact hcell j (by omega)) (fun j hj => by
        rw [hc2, if_pos ⟨by omega, by omega, by omega⟩, show i * 3 + j - i * 3 = j by omega]) (fun j hj => by
        rw [hc2, if_neg (by omega), hc1, if_pos ⟨by omega, by rw [hdl]; omega, by omega⟩, List.getElem?_drop]
        congr 1; omega)
    refine ⟨⟨by rw [hlen, ins_flat, hA, List.length_append, List.length_append, List.length_take, hdl, hAl, h3]; omega, .inr ⟨g, c, c2, ?_, hbg, hg2, by omega, hcm, by omega, ?_⟩⟩, ?_⟩
    · rw [hlen]
    · rw [hlen, ins_flat, hA, ← htk, hAl, h3]
      congr 1; omega
    · rw [hV]; exact fr_setCells (X := fun k => k = g) (a := W) (b := g) (.inl rfl) _ _ _ (hF1.drewN q)
  have HFIN := Lib.hid hfin
  obtain ⟨n, hn⟩ : ∃ n, xs.length = n := ⟨_, rfl⟩
  have HN := Lib.hid (And.intro hn hi)
  rw [hn] at hcp1 hcp2 hroom hl hi HFIN ⊢
  have hw1 : IntKind.i64.wrap ((i : Int) + 1) = (i : Int) + 1 := by rw [IntKind.wrap_i64]; omega
  have hb1 : (0 : Int) ≤ (i : Int) + 1 := by omega
  have hin : i ≤ n := by omega
  have htn : ((i : Int) + 1).toNat = i + 1 := by omega
  have hb2 : ¬ (c = i + 1) := by omega
  have hb3 : (i : Int) ≤ (n : Int) + 1 := by omega
  have hb4 : ¬ (c = i) := by omega
  have hz2 : ¬ ((i : Int) = (n : Int)) := by omega
  have mixed : Tryz.prog.follows Departure.mixedOrders = true := by kernel_rfl
  clear h hk hi0 hz0 hz1 hA hAl hcell hsz hdl hone hsome hF1 hg1 hs1 hc1 hfin hn hgr hcs hcm hbg hNg
  go_enter Tryz.func78, Tryz.ntmps78
  go_wp2_with (simp only [hov])
  go_region_law_o (refine Go.Proofs.step_copy_runI rfl _ _ 88 88 rfl _ _ (by simp [Act.eval, Act.put]) (by simp [Act.eval, Act.put]) (hcp1 _ _ _) ?_)
  go_wp2_with (at_builtin; refine Go.Proofs.wpList_copy_runI _ rfl _ _ 88 88 rfl _ _ rfl rfl (hcp2 _ (fun _ => rfl) (fun _ => rfl) _ _) ?_)
  go_ret
  obtain ⟨hn, hi⟩ := HN.out
  have hlen : (xs.take i ++ m :: xs.drop i).length = n + 1 := by rw [List.length_append, List.length_cons, List.length_take, List.length_drop]; omega
  obtain ⟨a, b⟩ := HFIN.out ((W.drew.setCells g ((i + 1) * 3) (A.drop (i * 3))).setCells g (i * 3) (encM m)) ⟨0, by rw [hW1]; rfl⟩
  refine ⟨⟨some ⟨g, 0, none⟩, c, by rw [hlen]; rfl, by rw [hlen]; exact a, tie_same rfl⟩, b.mono fun k _ e => by subst e; rfl⟩
set_option maxRecDepth 100000 in
set_option maxHeartbeats 8000000 in
theorem insM_grow {base : Nat} {W : World} {g c : Nat} {xs : List Mem} (h : OwnM base W (.slice (some ⟨g, 0, none⟩) xs.length c) xs) (m : Mem) {N : Nat} (hk : W.heap[N]? = some (.cells #[.int .i64 m.1, .bool m.2.1, .bool m.2.2] 71 (0, 0))) (hb : base ≤ W.heap.size) (hl : xs.length ≤ 1000000)
    (i : Nat) (hi : i < xs.length) (hroom : c < xs.length + 1) :
    Calls Tryz.prog 78 #[.slice (some ⟨g, 0, none⟩) xs.length c, .int .i64 i, .slice (some ⟨N, 0, none⟩) 1 1] W (InsP base W (.slice (some ⟨g, 0, none⟩) xs.length c) (xs.take i ++ m :: xs.drop i)) := by
  obtain ⟨i0, hi0, hz0, hz1, hz2⟩ := info_parts Tryz.infoMb
  obtain ⟨cur, hgr, hnc⟩ : ∃ cur, W.heap[g]? = some (.cells cur 71 (0, 0)) ∧ xs.length ≤ c := by
    rcases h.2 with ⟨h2, _⟩ | ⟨g', cap', cur, h2, h3, h4, h5, h6, h7, _⟩
    · cases h2
    · injection h2 with e1 _ e3
      injection e1 with e1; injection e1 with e1
      subst e1; subst e3
      exact ⟨cur, h4, h5⟩
  obtain ⟨A, hA⟩ : ∃ A, xs.flatMap encM = A := ⟨_, rfl⟩
  have hAl : A.length = xs.length * 3 := by rw [← hA, flat3]
  have hcell : ∀ j, j < xs.length * 3 → W.cell? ⟨g, j, none⟩ = A[j]? := fun j hj => by rw [← hA]; exact World.ownsRow.cellAt h j hj
  have hsz : (Tryz.prog.info? 71).map (·.size) = some 3 := by rw [hi0]; simp [hz1]
  have hdl : (A.drop (i * 3)).length = (xs.length - i) * 3 := by rw [List.length_drop, hAl, Nat.sub_mul]
  have hone : ∀ u ∈ A, u.oneCell' = true := fun u hu => encM_one (by rw [hA]; exact hu)
  have hgl : g < W.heap.size := blk_lt hgr
  have hNl : N < W.heap.size := blk_lt hk
  have hik : i + (xs.length + 1 - i) = xs.length + 1 := by omega
  have hold : (Builtin.firstCells i0.size i (.slice (some ⟨g, 0, none⟩) i c)).run Tryz.prog W.drew = .ok (A.take (i * 3)).toArray W.drew := by
    rw [hz1]
    exact run_firstCells_some W.drew 3 i ⟨g, 0, none⟩ i c (A.take (i * 3)) (by rw [List.length_take]; omega) (fun j v hj => by
      rw [Addr.add_lit, Nat.zero_add]
      rw [List.getElem?_take] at hj
      split at hj
      · exact (hcell j (by omega)).trans hj
      · cases hj)
  obtain ⟨G, hG⟩ : ∃ G, G = grownCap W (xs.length + 1) c 71 := ⟨_, rfl⟩
  obtain ⟨ROW, hROW⟩ : ∃ ROW : Array Value, ROW = (A.take (i * 3)).toArray ++ Builtin.zeroCells (memV (0, false, false)).cells (xs.length + 1 - i) ++ Builtin.zeroCells (memV (0, false, false)).cells (G - (xs.length + 1)) := ⟨_, rfl⟩
  have hrz : ∀ ty, (Builtin.append_ #[88, 3] ty #[.slice (some ⟨g, 0, none⟩) i c, .int .i64 ((xs.length : Int) + 1 - (i : Int))]).run Tryz.prog W = .ok (.slice (some ⟨W.heap.size, 0, none⟩) (xs.length + 1) G) (W.drew.alloc (.cells ROW 71)) := fun ty => by
    have h := Lib.run_append_grow_zeros W 88 3 ty 71 i0 _ .i64 .i64 Tryz.underlying88 Tryz.underlying3 hi0 hz0 (some ⟨g, 0, none⟩) i c (A.take (i * 3)) hold (xs.length + 1 - i) (by omega) (by omega) (by omega) (by omega) (by rw [hz2]; omega) (by rw [hz2, hik]; exact growslice_fits hroom (by omega))
    rw [hik, ← hG, ← hROW] at h
    rw [show (xs.length : Int) + 1 - (i : Int) = ((xs.length + 1 - i : Nat) : Int) by omega]
    exact h
  have hRl : (xs.length + 1) * 3 ≤ ROW.size := by
    rw [hROW]
    simp only [Array.size_append, List.size_toArray, List.length_take, hAl]
    rw [size_zeroCells]
    show _ ≤ _ + (xs.length + 1 - i) * 3 + _
    omega
  have hGn : xs.length + 1 ≤ G := by rw [hG]; exact grownCap_ge W _ _ _
  have hRs : ROW.size = G * 3 := by
    rw [hROW]
    simp only [Array.size_append, List.size_toArray, List.length_take, hAl]
    rw [size_zeroCells, size_zeroCells]
    show min (i * 3) (xs.length * 3) + (xs.length + 1 - i) * 3 + (G - (xs.length + 1)) * 3 = G * 3
    omega
  have hRt : ∀ j, j < i * 3 → ROW[j]? = A[j]? := fun j hj => by
    rw [hROW, Array.append_assoc, Array.getElem?_append_left (by simp [hAl]; omega), List.getElem?_toArray, List.getElem?_take_of_lt hj]
  have hGm : G ≤ maxLen := by rw [hG]; exact grownCap_le_maxLen W (xs.length + 1) c _ (by unfold maxLen; omega)
  have hG63 : G ≤ 9223372036854775807 := by unfold maxLen at hGm; omega
  obtain ⟨K, hK⟩ : ∃ K, W.heap.size = K := ⟨_, rfl⟩
  obtain ⟨W1, hW1⟩ : ∃ W1, W1 = (W.alloc (.cells ROW 71)).drew := ⟨_, rfl⟩
  have hW1' : W.drew.alloc (.cells ROW 71) = W1 := by rw [hW1]; rfl
  have kK : W1.heap[K]? = some (.cells ROW 71 (0, 0)) := by rw [hW1, ← hK]; exact heap_alloc_new W _
  have f1 : Fr (fun _ => False) W W1 := by rw [hW1]; exact ((Fr.refl _ W).alloc _).drew
  have kN := f1.blk hk fun e => e
  have hgc : ∀ j, W1.cell? ⟨g, j, none⟩ = W.cell? ⟨g, j, none⟩ := fun j => World.cell?_of_block (w := W) (w' := W1) (a := ⟨g, j, none⟩) (f1.block g hgl fun e => e)
  have hNs : ∀ j, j < (xs.length + 1) * 3 → (W1.cell? ⟨K, j, none⟩).isSome = true := fun j hj => by rw [blk_cell kK j, Array.getElem?_eq_getElem (by omega)]; rfl
  have hcpA : ∀ (V : World), (∀ x, V.cell? x = W1.cell? x) → (∀ x, V.frozen? x = W1.frozen? x) → ∀ ty dc, (Builtin.copy_ #[88, 88] ty #[.slice (some ⟨K, i * 3, none⟩) (xs.length + 1 - i) dc, .slice (some ⟨N, 0, none⟩) 1 1]).run Tryz.prog V = .ok (goInt 1) (V.setCells K (i * 3) (encM m)) := fun V hVc hVf ty dc => by
    have := run_copy_flat (P := Tryz.prog) V 88 88 ty 71 3 K (i * 3) (xs.length + 1 - i) dc ⟨N, 0, none⟩ 1 1 (encM m) Tryz.underlying88 hsz (by show 3 = _; simp only [Nat.min_def]; split <;> omega)
      (fun j v hj => by
        rw [Addr.add_lit, hVc, Nat.zero_add]
        exact (blk_cell kN j).trans (by rw [← hj]; simp [encM]))
      (fun j hj => by
        have hj3 : j < 3 := hj
        rw [hVc]; exact hNs _ (by omega))
      (fun j hj => by rw [hVf]; exact blk_free kK _) (fun v hv => encM_one1 hv)
    rw [this]
    congr 2
    simp only [Nat.min_def]; split <;> omega
  have hcpB : ∀ (V : World), (∀ x, V.cell? x = (W1.setCells K (i * 3) (encM m)).cell? x) → (∀ x, V.frozen? x = (W1.setCells K (i * 3) (encM m)).frozen? x) → ∀ ty dc sc, (Builtin.copy_ #[88, 88] ty #[.slice (some ⟨K, (i + 1) * 3, none⟩) (xs.length - i) dc, .slice (some ⟨g, i * 3, none⟩) (xs.length - i) sc]).run Tryz.prog V = .ok (goInt (xs.length - i)) (V.setCells K ((i + 1) * 3) (A.drop (i * 3))) := fun V hVc hVf ty dc sc => by
    have := run_copy_flat (P := Tryz.prog) V 88 88 ty 71 3 K ((i + 1) * 3) (xs.length - i) dc ⟨g, i * 3, none⟩ (xs.length - i) sc (A.drop (i * 3)) Tryz.underlying88 hsz (by rw [hdl]; congr 1; simp only [Nat.min_def]; split <;> omega)
      (fun j v hj => by
        rw [Addr.add_lit, hVc, World.cell?_setCells_out _ _ _ _ _ (fun e _ => by exfalso; have e2 : g = K := e; omega), hgc]
        rw [List.getElem?_drop] at hj
        have hj2 := (List.getElem?_eq_some_iff.1 hj).1
        exact (hcell (i * 3 + j) (by omega)).trans hj)
      (fun j hj => by rw [hdl] at hj; rw [hVc]; exact Go.Proofs.isSome_setCells K _ (i * 3) W1 (fun t ht => hNs _ (by have ht3 : t < 3 := ht; omega)) _ (hNs _ (by omega)))
      (fun j hj => by rw [hVf, World.frozen?_setCells]; exact blk_free kK _) (fun v hv => hone v (List.mem_of_mem_drop hv))
    rw [this]
    congr 2
    simp only [Nat.min_def]; split <;> omega
  obtain ⟨c1, hg1, hs1, hc1⟩ := heap_setCells (b := K) (encM m) (i * 3) W1 ROW kK
  have hfin : ∀ V, V = ((W1.setCells K (i * 3) (encM m)).drew).setCells K ((i + 1) * 3) (A.drop (i * 3)) → OwnM base V (.slice (some ⟨K, 0, none⟩) (xs.length + 1) G) (xs.take i ++ m :: xs.drop i) ∧ Fr (fun k => k = g) W V := fun V hV => by
    obtain ⟨c2, hg2, hs2, hc2⟩ := heap_setCells (b := K) (A.drop (i * 3)) ((i + 1) * 3) ((W1.setCells K (i * 3) (encM m)).drew) c1 hg1
    rw [← hV] at hg2
    have hlen : (xs.take i ++ m :: xs.drop i).length = xs.length + 1 := by rw [List.length_append, List.length_cons, List.length_take, List.length_drop]; omega
    have h3 : (encM m).length = 3 := rfl
    have htk := ins_take (A := A) (B := encM m) (p := i * 3) (c := c2) (by omega) (fun j hj => by
        rw [hc2, if_neg (by omega), hc1, if_neg (by omega)]
        exact hRt j hj) (fun j hj => by
        rw [hc2, if_neg (by omega), hc1, if_pos ⟨by omega, by omega, by omega⟩, show i * 3 + j - i * 3 = j by omega]) (fun j hj => by
        rw [hc2, if_pos ⟨by omega, by rw [hdl]; omega, by omega⟩, List.getElem?_drop]
        congr 1; omega)
    refine ⟨⟨by rw [hlen, ins_flat, hA, List.length_append, List.length_append, List.length_take, hdl, hAl, h3]; omega, .inr ⟨K, G, c2, ?_, by omega, hg2, by omega, hGm, by omega, ?_⟩⟩, ?_⟩
    · rw [hlen]
    · rw [hlen, ins_flat, hA, ← htk, hAl, h3]
      congr 1; omega
    · rw [hV]
      exact fr_setCells (X := fun k => k = g) (a := W) (b := K) (.inr (by omega)) _ _ _ (fr_setCells (X := fun k => k = g) (a := W) (b := K) (.inr (by omega)) _ _ _ (f1.mono fun _ _ e => e.elim)).drew
  have HFIN := Lib.hid (And.intro hW1 (And.intro hK hfin))
  obtain ⟨n, hn⟩ : ∃ n, xs.length = n := ⟨_, rfl⟩
  have HN := Lib.hid (And.intro hn hi)
  rw [hW1'] at hrz
  rw [hn] at hrz hcpA hcpB hroom hl hi HFIN hnc ⊢
  rw [hK] at hrz
  have hw1 : IntKind.i64.wrap ((i : Int) + 1) = (i : Int) + 1 := by rw [IntKind.wrap_i64]; omega
  have hb1 : (0 : Int) ≤ (i : Int) + 1 := by omega
  have hin : i ≤ n := by omega
  have htn : ((i : Int) + 1).toNat = i + 1 := by omega
  have hb3 : (i : Int) ≤ (n : Int) := by omega
  have hic : i ≤ c := by omega
  have hic2 : (i : Int) ≤ (c : Int) := by omega
  have hGi : ¬ (G = i) := by omega
  have hGim : ¬ (G = i + 1) := by omega
  have hci : ¬ (c = i) := by omega
  have hz2 : ¬ ((i : Int) = (n : Int)) := by omega
  have hz3 : (c : Int) < (n : Int) + 1 := by omega
  have hc63 : c ≤ 9223372036854775807 := by omega
  have mixed : Tryz.prog.follows Departure.mixedOrders = true := by kernel_rfl
  clear h hk hi0 hz0 hz1 hA hAl hcell hsz hdl hone hgr hold hG hROW hRl hGm hRs hRt hK kK f1 kN hgc hNs hg1 hs1 hc1 hfin hn hW1' hW1 hik hgl hNl hb hnc
  go_enter Tryz.func78, Tryz.ntmps78
  go_wp2_with (first
    | (at_builtin; refine Lib.wpList_append_run _ rfl _ _ _ _ rfl _ _ rfl rfl _ _ (hrz _) ?_)
    | (at_builtin; refine Go.Proofs.wpList_copy_runI _ rfl _ _ 88 88 rfl _ _ rfl rfl (hcpA _ (fun _ => rfl) (fun _ => rfl) _ _) ?_))
  go_region_law_o (refine Go.Proofs.step_copy_runI rfl _ _ 88 88 rfl (.slice (some ⟨K, (i + 1) * 3, none⟩) (n - i) (G - (i + 1))) (.slice (some ⟨g, i * 3, none⟩) (n - i) (c - i)) (by simp [Act.eval, Act.put]) (by simp [Act.eval, Act.put]) (hcpB (W1.setCells K (i * 3) (encM m)).drew (fun _ => rfl) (fun _ => rfl) 3 (G - (i + 1)) (c - i)) ?_)
  go_wp2
  go_ret
  obtain ⟨hn, hi⟩ := HN.out
  obtain ⟨hW1, hK, hfin⟩ := HFIN.out
  have hlen : (xs.take i ++ m :: xs.drop i).length = n + 1 := by rw [List.length_append, List.length_cons, List.length_take, List.length_drop]; omega
  obtain ⟨a, b⟩ := hfin _ rfl
  refine ⟨⟨some ⟨K, 0, none⟩, G, by rw [hlen]; rfl, by rw [hlen]; exact a, tie_new (n := K) rfl (by omega)⟩, b.mono fun k _ e => by subst e; rfl⟩
/-- a member more, wherever -/
theorem insM_any {base : Nat} {W : World} {A : Option Addr} {c : Nat} {xs : List Mem} (h : OwnM base W (.slice A xs.length c) xs) (m : Mem) {N : Nat} (hk : W.heap[N]? = some (.cells #[.int .i64 m.1, .bool m.2.1, .bool m.2.2] 71 (0, 0))) (hN : (Value.slice A xs.length c).ownBlock ≠ some N)
    (hb : base ≤ W.heap.size) (hl : xs.length ≤ 1000000) (i : Nat) (hi : i ≤ xs.length) :
    Calls Tryz.prog 78 #[.slice A xs.length c, .int .i64 i, .slice (some ⟨N, 0, none⟩) 1 1] W (InsP base W (.slice A xs.length c) (xs.take i ++ m :: xs.drop i)) := by
  rcases Nat.lt_or_ge i xs.length with hlt | hge
  · obtain ⟨g, rfl⟩ : ∃ g, A = some ⟨g, 0, none⟩ := by
      rcases h.2 with ⟨h2, h3⟩ | ⟨g', cap', cur, h2, _⟩
      · omega
      · injection h2 with e1 _ _; exact ⟨g', e1⟩
    rcases Nat.lt_or_ge c (xs.length + 1) with hr | hr
    · exact insM_grow h m hk hb hl i hlt hr
    · exact insM_shift h m hk (fun e => hN (by rw [e]; rfl)) hl i hlt hr
  · obtain rfl : i = xs.length := by omega
    rw [List.take_length, List.drop_length]
    exact insM_end h m hk hl hb
theorem ChgW.then {base B : Nat} {q q' : RmV} {r2 : Rm} {w w1 w2 : World} (f : Fr (RmX B q) w w1) (c : ∀ k, RmX B q' k → k < w.heap.size → RmX B q k) (h2 : ChgW base B q' r2 w1 w2) : ChgW base B q r2 w w2 := by
  obtain ⟨q2, a, b, d⟩ := h2
  exact ⟨q2, a, f.trans3 b fun k hk e => c k e hk, fun k hk hl => c k (d k hk (Nat.lt_of_lt_of_le hl f.size)) hl⟩
/-- a member more -/
def addR (r : Rm) (id : Int) (op : Bool) : Rm := if hasM r.mem id then r else { r with mem := insM r.mem (id, op, false), inv := delAll r.inv [id] }
set_option maxRecDepth 100000 in
set_option maxHeartbeats 8000000 in
theorem add_any {base B : Nat} {q : RmV} {r : Rm} {w : World} (h : RoomAt base B q r w) (id : Int) (op : Bool) (hl : r.mem.length ≤ 100000) (hil : r.inv.length ≤ 100000) :
    Calls Tryz.prog 48 #[.pointer (some ⟨B, 0, none⟩), .int .i64 id, .bool op] w fun e w' => (∃ v, e = .returned v) ∧ ChgW base B q (addR r id op) w w' := by
  have HP := Lib.hid (place_any h id (by omega))
  cases hb : hasM r.mem id with
  | true =>
    have hr : addR r id op = r := by unfold addR; rw [if_pos hb]
    rw [hr]
    rw [hb] at HP
    have H := Lib.hid h
    obtain ⟨i, hi⟩ : ∃ i, ixM r.mem id = i := ⟨_, rfl⟩
    rw [hi] at HP
    clear h hb hi hr
    go_enter Tryz.func48, Tryz.ntmps48
    go_wp2_with fail
    refine HP.out.mono ?_
    rintro e w1 ⟨rfl, hb1⟩
    have HB := Lib.hid hb1
    clear hb1
    go_wp2_with fail
    first | (refine bodyPost_ret (results_none rfl _ _ _) rfl ?_; exact ⟨⟨_, rfl⟩, q, H.out.below HB.out, Fr.of_below HB.out, fun _ hk _ => hk⟩) | (go_end0; exact ⟨⟨_, rfl⟩, q, H.out.below HB.out, Fr.of_below HB.out, fun _ hk _ => hk⟩)
  | false =>
    have hr : addR r id op = { r with mem := insM r.mem (id, op, false), inv := delAll r.inv [id] } := by unfold addR; rw [hb]; rfl
    rw [hr]
    rw [hb] at HP
    obtain ⟨A, c, hv⟩ := ownM_slice h.2.1
    have H := Lib.hid (And.intro h (And.intro hb (And.intro hv (And.intro hl hil))))
    have hixl := ixM_le r.mem id
    obtain ⟨i, hi⟩ : ∃ i, ixM r.mem id = i := ⟨_, rfl⟩
    obtain ⟨n, hn⟩ : ∃ n, r.mem.length = n := ⟨_, rfl⟩
    rw [hi] at HP hixl
    have HI := Lib.hid (And.intro hi (And.intro hn hixl))
    clear h hb hi hr hn hv hl hil hixl
    go_enter Tryz.func48, Tryz.ntmps48
    go_wp2_with fail
    refine HP.out.mono ?_
    rintro e w1 ⟨rfl, hb1⟩
    have h1 := H.out.1.below hb1
    obtain ⟨N, hN⟩ : ∃ N, w1.heap.size = N := ⟨_, rfl⟩
    obtain ⟨W2, hW2⟩ : ∃ W2, w1.alloc (.cells #[.int .i64 id, .bool op, .bool false] 71) = W2 := ⟨_, rfl⟩
    have b2 : RowKit.Below w1.heap.size w1 W2 := by rw [← hW2]; exact (Below.refl _ w1).alloc (Nat.le_refl _) _
    have k2 : W2.heap[N]? = some (.cells #[.int .i64 id, .bool op, .bool false] 71 (0, 0)) := by rw [← hW2, ← hN]; exact heap_alloc_new w1 _
    have h2 := h1.below b2
    have ho := h2.2.1
    rw [H.out.2.2.1] at ho
    have hbase : base ≤ W2.heap.size := by have := h2.2.2.2.2.1; have := blk_lt h2.1; omega
    have hvl : ∀ k, q.vm.ownBlock = some k → k < N ∧ k ≠ B := fun k hk => ⟨by have := (h1.lt k (.inr (.inl hk))).2; omega, fun e => h1.apart.1.1 (by rw [hk, e])⟩
    have hBN : B < N := by have := blk_lt h1.1; omega
    have hI := insM_any ho (id, op, false) k2 (fun e => by have := (hvl N (by rw [H.out.2.2.1]; exact e)).1; omega) hbase (by have := H.out.2.2.2.1; omega) i (by have := HI.out.2.2; omega)
    rw [HI.out.2.1] at hI
    have c1 : w1.cell? ⟨B, 1, none⟩ = some (.slice A n c) := by rw [← HI.out.2.1, ← H.out.2.2.1]; exact blk_cell h1.1 1
    have HN := Lib.hid hI
    have H2 := Lib.hid (And.intro hb1 (And.intro h1 (And.intro b2 (And.intro h2 (And.intro hvl (And.intro hBN hN))))))
    clear hb1 h1 b2 k2 h2 ho hbase hvl hBN hI
    go_wp2_with fail
    clear hW2 hN
    refine HN.out.mono ?_
    rintro e w3 ⟨⟨A3, c3, rfl, o3, t3⟩, f3⟩
    obtain ⟨hb1, h1, b2, h2, hvl, hBN, hN⟩ := H2.out
    have hq : (Value.slice A n c).ownBlock = q.vm.ownBlock := by rw [H.out.2.2.1, HI.out.2.1]
    have k3 : w3.heap[B]? = some (rmO r q) := f3.blk h2.1 fun e => by rw [hq] at e; exact (hvl B e).2 rfl
    have hins : r.mem.take i ++ (id, op, false) :: r.mem.drop i = insM r.mem (id, op, false) := by rw [← HI.out.1]; rfl
    rw [hins] at o3 t3 ⊢
    obtain ⟨n3, hn3⟩ : ∃ n3, (insM r.mem (id, op, false)).length = n3 := ⟨_, rfl⟩
    rw [hn3] at o3 t3 ⊢
    have d1 := blk_cell k3 1
    have g1 := blk_free k3 1
    obtain ⟨W4, hW4⟩ : ∃ W4, w3.setCell ⟨B, 1, none⟩ (.slice A3 n3 c3) = W4 := ⟨_, rfl⟩
    have f4 : Fr (fun k => k = B) w3 W4 := by rw [← hW4]; exact Fr.setCell (X := fun k => k = B) (Fr.refl _ w3) ⟨B, 1, none⟩ rfl _
    have k4 : W4.heap[B]? = some (rmO { r with mem := insM r.mem (id, op, false) } { q with vm := .slice A3 n3 c3 }) := by rw [← hW4]; exact blk_set k3 1 _
    have o4 : OwnM base W4 (.slice A3 n3 c3) (insM r.mem (id, op, false)) := ownM_kept o3 fun g hg => f4.block g (o3.lt g hg).2 fun e => by
      subst e
      have := t3 _ hg (by have := blk_lt h2.1; omega)
      rw [hq] at this
      exact (hvl _ this).2 rfl
    have f14 : Fr (fun k => k = B ∨ q.vm.ownBlock = some k) w1 W4 := ((Fr.of_below (X := fun k => k = B ∨ q.vm.ownBlock = some k) b2).trans3 f3 fun k _ e => .inr (by rw [hq] at e; exact e)).trans3 f4 fun k _ e => .inl e
    have hup : UpM (insM r.mem (id, op, false)) := insM_up h1.2.2.2.2.2.2 H.out.2.1
    have h4 : RoomAt base B { q with vm := .slice A3 n3 c3 } { r with mem := insM r.mem (id, op, false) } W4 := h1.toMem o4 hup k4 f14
    have hc4 : ∀ k, RmX B { q with vm := .slice A3 n3 c3 } k → k < w1.heap.size → RmX B q k := fun k hk hlt => by
      rcases hk with e | e | e | e | e
      · exact .inl e
      · exact .inr (.inl (by have := t3 k e (Nat.lt_of_lt_of_le hlt b2.size); rw [hq] at this; exact this))
      · exact .inr (.inr (.inl e))
      · exact .inr (.inr (.inr (.inl e)))
      · exact .inr (.inr (.inr (.inr e)))
    have f14' : Fr (RmX B q) w1 W4 := f14.mono fun k _ e => by
      rcases e with e | e
      · exact .inl e
      · exact .inr (.inl e)
    have b5 : RowKit.Below W4.heap.size W4 (W4.alloc (.cells #[.int .i64 id] 3)) := (Below.refl _ W4).alloc (Nat.le_refl _) _
    have h5 := h4.below b5
    have hlt := h4.lt
    have hS := (hlt q.S (.inr (.inr (.inr (.inl rfl)))))
    have hSA := set_rem h5.2.2.2.1 (by have := h4.2.2.2.2.1; have := blk_lt h4.1; simp; omega) (some ⟨W4.heap.size, 0, none⟩) [id] 1 (by simp; have := H.out.2.2.2.2; omega) (by simp) (fun _ => ⟨W4.heap.size, 0, rfl, by simp, fun e => by have e2 : W4.heap.size = q.S := e; omega, fun e => by have := (hlt _ (.inr (.inr (.inr (.inr e))))).2; omega, fun j hj => by
      obtain rfl : j = 0 := by simpa using hj
      exact blk_cell (heap_alloc_new W4 _) 0⟩)
    have c8 : W4.cell? ⟨B, 8, none⟩ = some (.pointer (some ⟨q.S, 0, none⟩)) := blk_cell h4.1 8
    obtain ⟨nr, hnr⟩ : ∃ nr : Int, ((({ r with mem := insM r.mem (id, op, false) } : Rm).inv.length - (delAll ({ r with mem := insM r.mem (id, op, false) } : Rm).inv [id]).length : Nat) : Int) = nr := ⟨_, rfl⟩
    rw [hnr] at hSA
    have HS := Lib.hid hSA
    have H4 := Lib.hid (And.intro h5 (And.intro b5 (And.intro hc4 f14')))
    clear hb1 h1 b2 h2 hvl hBN hN hq k3 hins o3 t3 hn3 f3 f4 k4 o4 f14 hup h4 hc4 f14' b5 h5 hlt hS hSA hnr c1
    go_wp2_with fail
    refine HS.out.mono ?_
    rintro e w6 ⟨rfl, ha⟩
    have HA := Lib.hid ha
    clear ha
    go_wp2_with fail
    go_end0
    obtain ⟨ob', a1, a2, a3⟩ := HA.out
    obtain ⟨h5, b5, hc4, f14'⟩ := H4.out
    refine ⟨⟨_, rfl⟩, ChgW.around (W := w1) ?_ H2.out.1 (Below.refl _ _)⟩
    exact ChgW.then f14' hc4 ((chgW_set h5 a1 a2 a3).around b5 (Below.refl _ _))
end Go.Proofs.YtlkeomcillencaaGreat
end
section
/- The document's Same and Compare of layer 1. -/
namespace Go.Proofs.YtlkeomcillencaaGreat
open Go.RowKit

theorem refsame (a b : ByteArray) (w : World) (ha : a.size ≤ 1000000) (hb : b.size ≤ 1000000) :
    Calls Tryz.prog 54 #[.string a, .string b] w fun e w' => e = .returned (.bool (sameF a.data.toList b.data.toList)) ∧ Below w.heap.size w w' := by
  go_enter Tryz.func54, Tryz.ntmps54
  go_wp2_with fail
  refine (reftext _ _ ha).mono ?_
  rintro e w1 ⟨rfl, hb1⟩
  go_wp2_with fail
  refine (reftext _ _ hb).mono ?_
  rintro e w2 ⟨rfl, hb2⟩
  go_wp2_with fail
  go_ret
  exact ⟨ret_bool (beq_bs _ _), hb1.trans (hb2.mono hb1.size)⟩

theorem less_cmpL : ∀ (x y : List UInt8), Op.bytesLess x y = true ↔ cmpL x y = -1
  | [], [] => by simp [Op.bytesLess, cmpL]
  | [], _ :: _ => by simp [Op.bytesLess, cmpL]
  | _ :: _, [] => by simp [Op.bytesLess, cmpL]
  | a :: x, b :: y => by
    simp only [Op.bytesLess, cmpL, Bool.or_eq_true, decide_eq_true_eq, Bool.and_eq_true, beq_iff_eq, UInt8.lt_iff_toNat_lt]
    by_cases h1 : a.toNat < b.toNat
    · simp [h1]
    · rw [if_neg h1]
      by_cases h2 : b.toNat < a.toNat
      · rw [if_pos h2]
        constructor
        · rintro (h | ⟨rfl, _⟩) <;> omega
        · intro h; cases h
      · rw [if_neg h2, ← less_cmpL x y]
        have : a = b := UInt8.toNat_inj.mp (by omega)
        subst this
        simp
theorem cmpL_three : ∀ (x y : List UInt8), cmpL x y = -1 ∨ cmpL x y = 0 ∨ cmpL x y = 1
  | [], [] => by simp [cmpL]
  | [], _ :: _ => by simp [cmpL]
  | _ :: _, [] => by simp [cmpL]
  | a :: x, b :: y => by
    simp only [cmpL]
    split
    · simp
    · split
      · simp
      · exact cmpL_three x y
theorem cmpF_lt {a b : List UInt8} {x y : ByteArray} (hx : x = bs (foldL a)) (hy : y = bs (foldL b)) (h : Op.bytesLess x.toList y.toList = true) : cmpF a b = -1 := by
  subst hx hy
  rw [ByteArray.toList_eq, ByteArray.toList_eq] at h
  exact (less_cmpL _ _).1 h
theorem cmpF_eq {a b : List UInt8} {x y : ByteArray} (hx : x = bs (foldL a)) (hy : y = bs (foldL b)) (h : (!x.toList == y.toList) = false) : cmpF a b = 0 := by
  subst hx hy
  rw [beq_bs] at h
  simp at h
  exact cmpL_zero.2 h
theorem cmpF_gt {a b : List UInt8} {x y : ByteArray} (hx : x = bs (foldL a)) (hy : y = bs (foldL b)) (h : Op.bytesLess x.toList y.toList = false) (h2 : (!x.toList == y.toList) = true) : cmpF a b = 1 := by
  subst hx hy
  rw [ByteArray.toList_eq, ByteArray.toList_eq] at h
  rw [beq_bs] at h2
  simp at h2
  rcases cmpL_three (foldL a) (foldL b) with h3 | h3 | h3
  · have := (less_cmpL (foldL a) (foldL b)).2 h3
    rw [bs_toList, bs_toList] at h
    rw [h] at this; cases this
  · exact absurd (cmpL_zero.1 h3) h2
  · exact h3

theorem refcompare (a b : ByteArray) (w : World) (ha : a.size ≤ 1000000) (hb : b.size ≤ 1000000) :
    Calls Tryz.prog 34 #[.string a, .string b] w fun e w' => e = .returned (.int .i64 (cmpF a.data.toList b.data.toList)) ∧ Below w.heap.size w w' := by
  go_enter Tryz.func34, Tryz.ntmps34
  go_wp2_with fail
  refine (reftext _ _ ha).mono ?_
  rintro e w1 ⟨rfl, hb1⟩
  go_wp2_with fail
  refine (reftext _ _ hb).mono ?_
  rintro e w2 ⟨rfl, hb2⟩
  obtain ⟨x, hx⟩ : ∃ x, x = bs (foldL a.data.toList) := ⟨_, rfl⟩
  obtain ⟨y, hy⟩ : ∃ y, y = bs (foldL b.data.toList) := ⟨_, rfl⟩
  rw [← hx, ← hy]
  have Hx := Lib.hid hx
  have Hy := Lib.hid hy
  clear hx hy
  go_wp2_with fail
  · go_ret
    exact ⟨ret_int (cmpF_lt Hx.out Hy.out (by assumption)).symm, hb1.trans (hb2.mono hb1.size)⟩
  · go_ret
    exact ⟨ret_int (cmpF_gt Hx.out Hy.out (by assumption) (by assumption)).symm, hb1.trans (hb2.mono hb1.size)⟩
  · go_ret
    exact ⟨ret_int (cmpF_eq Hx.out Hy.out (by assumption)).symm, hb1.trans (hb2.mono hb1.size)⟩
end Go.Proofs.YtlkeomcillencaaGreat
end
section
/- What layer 1's laws ask first: awake. FoldBytes: every byte. -/
namespace Go.Proofs.YtlkeomcillencaaGreat
open Go.RowKit

theorem below_dn {B : Nat} {a w : World} (h : Below B a w) (n : Nat) : Below B a (w.drewN n) := ⟨h.os, h.tape, h.output, h.size, h.block⟩



theorem foldB_idem (b : UInt8) : foldB (foldB b) = foldB b := by
  have h : ∀ n : Fin 256, foldB (foldB (UInt8.ofNat n)) = foldB (UInt8.ofNat n) := by decide +kernel
  have := h ⟨b.toNat, b.toNat_lt⟩
  simpa using this

theorem int_u8 {a : Int} (h0 : 0 ≤ a) (h1 : a ≤ 255) : ∃ b : UInt8, a = (b.toNat : Int) :=
  ⟨UInt8.ofNat a.toNat, by rw [UInt8.toNat_ofNat']; omega⟩


end Go.Proofs.YtlkeomcillencaaGreat
end
section
/- Layer 1: that folded texts stand in one row (numbers and lists alone). -/
namespace Go.Proofs.YtlkeomcillencaaGreat
open Go.RowKit

theorem cmpL_anti : ∀ (x y : List UInt8), cmpL y x = -cmpL x y
  | [], [] => rfl
  | [], _ :: _ => rfl
  | _ :: _, [] => rfl
  | a :: x, b :: y => by
    simp only [cmpL]
    by_cases h1 : a.toNat < b.toNat
    · rw [if_pos h1, if_neg (by omega), if_pos h1]; rfl
    · by_cases h2 : b.toNat < a.toNat
      · rw [if_pos h2, if_neg h1, if_pos h2]
      · rw [if_neg h2, if_neg h1, if_neg h1, if_neg h2, cmpL_anti x y]
theorem cmpF_anti (x y : List UInt8) : cmpF y x = -cmpF x y := cmpL_anti _ _
theorem cmpL_trans : ∀ (x y z : List UInt8), cmpL x y ≤ 0 → cmpL y z ≤ 0 → cmpL x z ≤ 0
  | [], _, [] => by simp [cmpL]
  | [], _, _ :: _ => by simp [cmpL]
  | _ :: _, [], _ => by intro h; simp [cmpL] at h
  | _ :: _, _ :: _, [] => by intro _ h; simp [cmpL] at h
  | a :: x, b :: y, c :: z => by
    simp only [cmpL]
    intro h1 h2
    by_cases e1 : a.toNat < b.toNat
    · by_cases e2 : b.toNat < c.toNat
      · rw [if_pos (by omega)]; omega
      · rw [if_neg e2] at h2
        by_cases e3 : c.toNat < b.toNat
        · rw [if_pos e3] at h2; omega
        · rw [if_pos (by omega)]; omega
    · rw [if_neg e1] at h1
      by_cases e2 : b.toNat < a.toNat
      · rw [if_pos e2] at h1; omega
      · rw [if_neg e2] at h1
        by_cases e3 : b.toNat < c.toNat
        · rw [if_pos (by omega)]; omega
        · rw [if_neg e3] at h2
          by_cases e4 : c.toNat < b.toNat
          · rw [if_pos e4] at h2; omega
          · rw [if_neg e4] at h2
            rw [if_neg (by omega), if_neg (by omega)]
            exact cmpL_trans x y z h1 h2
theorem cmpF_trans {x y z : List UInt8} : cmpF x y ≤ 0 → cmpF y z ≤ 0 → cmpF x z ≤ 0 := cmpL_trans _ _ _
theorem cmpL_app : ∀ (c x y : List UInt8), cmpL (c ++ x) (c ++ y) = cmpL x y
  | [], _, _ => rfl
  | b :: c, x, y => by
    simp only [List.cons_append, cmpL]
    rw [if_neg (by omega), if_neg (by omega)]
    exact cmpL_app c x y
theorem cmpF_app (c x y : List UInt8) : cmpF (c ++ x) (c ++ y) = cmpF x y := by
  unfold cmpF; rw [foldL_append, foldL_append]; exact cmpL_app _ _ _
theorem cmpF_zero_len {x y : List UInt8} (h : cmpF x y = 0) : x.length = y.length := by
  have := congrArg List.length (cmpL_zero.1 h)
  simpa using this
theorem sameF_take (a b : List UInt8) : sameF ((a ++ b).take a.length) a = true := by
  rw [List.take_left]; exact sameF_iff.2 rfl
theorem sameF_refl (a : List UInt8) : sameF a a = true := sameF_iff.2 rfl
theorem sameF_halves {a b c d : List UInt8} (h : a.length = c.length) : sameF (a ++ b) (c ++ d) = (sameF a c && sameF b d) := by
  rw [Bool.eq_iff_iff, Bool.and_eq_true, sameF_iff, sameF_iff, sameF_iff, foldL_append, foldL_append]
  constructor
  · intro e
    exact List.append_inj e (by simp [h])
  · rintro ⟨e1, e2⟩
    rw [e1, e2]
theorem cmpF_bd (x y : List UInt8) : -1 ≤ cmpF x y ∧ cmpF x y ≤ 1 := by
  rcases cmpL_three (foldL x) (foldL y) with h | h | h <;> (unfold cmpF; omega)
end Go.Proofs.YtlkeomcillencaaGreat
end
section
/- Layer 1's laws on texts: walked from the contracts. -/
namespace Go.Proofs.YtlkeomcillencaaGreat
open Go.RowKit

theorem bnext {w w1 w2 : World} (h : Below w.heap.size w w1) (k : Below w1.heap.size w1 w2) : Below w.heap.size w w2 := h.trans (k.mono h.size)

theorem foldL_idem (l : List UInt8) : foldL (foldL l) = foldL l := by
  unfold foldL
  rw [List.map_map]
  congr 1
  funext b
  exact foldB_idem b




end Go.Proofs.YtlkeomcillencaaGreat
end
section
/- Layer 20: all rooms, as they lie: a book of rooms, a relation, the rooms themselves, each apart from all others (blocks are coloured). -/
namespace Go.Proofs.YtlkeomcillencaaGreat
open Go Go.RowKit Go.Maps Go.Lib

/-- a room, and where it lies -/
structure RmE where
  B : Nat
  q : RmV
  r : Rm
def keyE (e : RmE) : List UInt8 := foldL e.r.nm
/-- its entry in the book -/
def entE (e : RmE) : KeyB × Ent VP := (foldL e.r.nm, ⟨bs e.r.nm, foldL e.r.nm, some e.B⟩)
abbrev Tag := Nat × List UInt8
abbrev tag0 : Tag := (0, [])
/-- the rooms' own block -/
def rsO (mr mj mb : Int) (t tr : Nat) : Obj := .cells #[.string ⟨#[]⟩, .string ⟨#[]⟩, .string ⟨#[]⟩, .string ⟨#[]⟩, .int .i64 0, .int .i64 0, .int .i64 mj, .int .i64 mr, .int .i64 mb, .int .i64 0, .int .i64 0, .int .i64 0, .int .i64 0, .int .i64 0, .int .i64 0, .pointer (some ⟨t, 0, none⟩), .pointer (some ⟨tr, 0, none⟩)] 78 (0, 0)
structure RsPh (base : Nat) (w : World) (R t b tr : Nat) (X : Nat → Prop) (C : Nat → Tag) (mr mj mb : Int) (Q : List RmE) (L : List (Int × List UInt8)) : Prop where
  self : w.heap[R]? = some (rsO mr mj mb t tr)
  bok : BokP base w t b mr (Q.map entE)
  rel : RelAtIS base w tr X mj L
  each : ∀ e ∈ Q, RoomAt base e.B e.q e.r w
  cR : C R = (1, [])
  ct : C t = (2, [])
  cb : C b = (2, [])
  cX : ∀ j, X j → C j = (3, [])
  cE : ∀ e ∈ Q, ∀ k, RmX e.B e.q k → C k = (4, keyE e)
  cN : ∀ k, w.heap.size ≤ k → C k = tag0
  cB : ∀ k, k < base → C k = tag0
/-- colours of the blocks that a call made -/
def paint (C : Nat → Tag) (n m : Nat) (g : Tag) : Nat → Tag := fun k => if k < n then C k else if k < m then g else tag0
theorem paint_old {C : Nat → Tag} {n m : Nat} {g : Tag} {k : Nat} (h : k < n) : paint C n m g k = C k := if_pos h
theorem paint_new {C : Nat → Tag} {n m : Nat} {g : Tag} {k : Nat} (h : n ≤ k) (h2 : k < m) : paint C n m g k = g := by unfold paint; rw [if_neg (by omega), if_pos h2]
theorem paint_far {C : Nat → Tag} {n m : Nat} {g : Tag} {k : Nat} (h : n ≤ k) (h2 : m ≤ k) : paint C n m g k = tag0 := by unfold paint; rw [if_neg (by omega), if_neg (by omega)]
section
variable {base : Nat} {w w' : World} {R t b tr : Nat} {X : Nat → Prop} {C : Nat → Tag} {mr mj mb : Int} {Q : List RmE} {L : List (Int × List UInt8)}
theorem RsPh.keys (h : RsPh base w R t b tr X C mr mj mb Q L) : (Q.map keyE).Nodup := by
  obtain ⟨D, _, h2, _⟩ := h.bok.2.2.2.2
  have := h2.nodup
  rw [List.map_map] at this
  exact this
theorem RsPh.lt (h : RsPh base w R t b tr X C mr mj mb Q L) {k : Nat} (hk : C k ≠ tag0) : base ≤ k ∧ k < w.heap.size :=
  ⟨Nat.le_of_not_lt fun e => hk (h.cB k e), Nat.lt_of_not_le fun e => hk (h.cN k e)⟩
theorem RsPh.fr (h : RsPh base w R t b tr X C mr mj mb Q L) {Z : Nat → Prop} (hf : Fr Z w w') (hz : ∀ k, C k ≠ tag0 → ¬ Z k) : RsPh base w' R t b tr X C mr mj mb Q L := by
  have n2 : ((2, []) : Tag) ≠ tag0 := by simp
  refine ⟨hf.blk h.self (hz _ (by rw [h.cR]; simp)), bokP_fr h.bok hf (hz _ (by rw [h.ct]; simp)) (hz _ (by rw [h.cb]; simp)), h.rel.fr hf fun j hj => hz _ (by rw [h.cX j hj]; simp), fun e he => (h.each e he).fr hf fun k hk => hz _ (by rw [h.cE e he k hk]; simp), h.cR, h.ct, h.cb, h.cX, h.cE, fun k hk => h.cN k (Nat.le_trans hf.size hk), h.cB⟩
theorem RsPh.below (h : RsPh base w R t b tr X C mr mj mb Q L) (hb : RowKit.Below w.heap.size w w') : RsPh base w' R t b tr X C mr mj mb Q L := h.fr (Fr.of_below (X := fun _ => False) hb) fun _ _ e => e
/-- what a step gives: the state behind it; the colours that were; what it may have written -/
def RsTo (base R : Nat) (C : Nat → Tag) (mr mj mb : Int) (Q : List RmE) (L : List (Int × List UInt8)) (w w' : World) : Prop :=
  ∃ t b tr X C', RsPh base w' R t b tr X C' mr mj mb Q L ∧ (∀ k, k < w.heap.size → C' k = C k) ∧ Fr (fun k => C k ≠ tag0) w w'
theorem RsTo.trans {C1 : Nat → Tag} {Q2 : List RmE} {L2 : List (Int × List UInt8)} {w1 w2 : World} (hc : ∀ k, k < w.heap.size → C1 k = C k) (hf : Fr (fun k => C k ≠ tag0) w w1) (h : RsTo base R C1 mr mj mb Q2 L2 w1 w2) : RsTo base R C mr mj mb Q2 L2 w w2 := by
  obtain ⟨t2, b2, tr2, X2, C2, h1, h2, h3⟩ := h
  exact ⟨t2, b2, tr2, X2, C2, h1, fun k hk => (h2 k (Nat.lt_of_lt_of_le hk hf.size)).trans (hc k hk), hf.trans3 h3 fun k hk e => by rwa [hc k hk] at e⟩
theorem RsPh.to (h : RsPh base w R t b tr X C mr mj mb Q L) (hb : RowKit.Below w.heap.size w w') : RsTo base R C mr mj mb Q L w w' := ⟨t, b, tr, X, C, h.below hb, fun _ _ => rfl, Fr.of_below hb⟩
theorem RsTo.then {Q2 : List RmE} {L2 : List (Int × List UInt8)} {w1 w2 : World} (h : RsTo base R C mr mj mb Q2 L2 w w1) (hb : RowKit.Below w1.heap.size w1 w2) : RsTo base R C mr mj mb Q2 L2 w w2 := by
  obtain ⟨t2, b2, tr2, X2, C2, h1, h2, h3⟩ := h
  exact ⟨t2, b2, tr2, X2, C2, h1.below hb, h2, h3.trans (Fr.of_below hb)⟩
/-- the relation changed -/
theorem RsPh.relTo (h : RsPh base w R t b tr X C mr mj mb Q L) {X' : Nat → Prop} {L' : List (Int × List UInt8)} (hf : Fr X w w') (hx : ∀ j, X' j → X j ∨ w.heap.size ≤ j) (hr : RelAtIS base w' tr X' mj L') :
    RsPh base w' R t b tr X' (paint C w.heap.size w'.heap.size (3, [])) mr mj mb Q L' ∧ Fr (fun k => C k ≠ tag0) w w' := by
  have hlR : R < w.heap.size := blk_lt h.self
  have hlt := bokP_lt h.bok
  have ne : ∀ {k : Nat} {g : Tag}, C k = g → g ≠ (3, []) → ¬ X k := fun e hg hx => hg (by rw [← e, h.cX _ hx])
  refine ⟨⟨hf.blk h.self (ne h.cR (by simp)), bokP_fr h.bok hf (ne h.ct (by simp)) (ne h.cb (by simp)), hr, fun e he => (h.each e he).fr hf fun k hk => ne (h.cE e he k hk) (by simp), by rw [paint_old hlR]; exact h.cR, by rw [paint_old hlt.1]; exact h.ct, by rw [paint_old hlt.2]; exact h.cb,
    fun j hj => ?_, fun e he k hk => by rw [paint_old ((h.each e he).lt k hk).2]; exact h.cE e he k hk, fun k hk => paint_far (Nat.le_trans hf.size hk) hk, fun k hk => ?_⟩, hf.mono fun k _ hk => by rw [h.cX k hk]; simp⟩
  · by_cases e : j < w.heap.size
    · rw [paint_old e]
      rcases hx j hj with e2 | e2
      · exact h.cX j e2
      · omega
    · exact paint_new (by omega) (hr.lt hj).2
  · have := (h.each)
    have hbR : base ≤ w.heap.size := by have := h.bok.1; have := hlt.1; omega
    rw [paint_old (by omega)]; exact h.cB k hk
/-- a room changed -/
theorem RsPh.roomTo {Q1 Q2 : List RmE} {e : RmE} (h : RsPh base w R t b tr X C mr mj mb (Q1 ++ e :: Q2) L) {r' : Rm} (hn : r'.nm = e.r.nm) (hc : ChgW base e.B e.q r' w w') :
    (∃ q', RsPh base w' R t b tr X (paint C w.heap.size w'.heap.size (4, keyE e)) mr mj mb (Q1 ++ ⟨e.B, q', r'⟩ :: Q2) L) ∧ Fr (fun k => C k ≠ tag0) w w' := by
  obtain ⟨q', h1, hf, h3⟩ := hc
  have hlR : R < w.heap.size := blk_lt h.self
  have hlt := bokP_lt h.bok
  have hkey := h.keys
  have he : e ∈ Q1 ++ e :: Q2 := by simp
  have ne : ∀ {k : Nat} {g : Tag}, C k = g → g ≠ (4, keyE e) → ¬ RmX e.B e.q k := fun e1 hg hx => hg (by rw [← e1, h.cE e he _ hx])
  have hsz := hf.size
  have hmap : (Q1 ++ ⟨e.B, q', r'⟩ :: Q2 : List RmE).map entE = (Q1 ++ e :: Q2).map entE := by
    rw [List.map_append, List.map_append, List.map_cons, List.map_cons]
    unfold entE
    simp only [hn]
  have hoth : ∀ f, f ∈ Q1 ∨ f ∈ Q2 → f ∈ Q1 ++ e :: Q2 ∧ keyE f ≠ keyE e := fun f hfm => by
    rw [List.map_append, List.map_cons, List.nodup_append, List.nodup_cons] at hkey
    rcases hfm with hfm | hfm
    · exact ⟨by simp [hfm], fun e1 => hkey.2.2 _ (List.mem_map_of_mem hfm) _ (List.mem_cons_self ..) e1⟩
    · exact ⟨by simp [hfm], fun e1 => hkey.2.1.1 (e1 ▸ List.mem_map_of_mem hfm)⟩
  refine ⟨⟨q', hf.blk h.self (ne h.cR (by simp)), by rw [hmap]; exact bokP_fr h.bok hf (ne h.ct (by simp)) (ne h.cb (by simp)), h.rel.fr hf fun j hj => ne (h.cX j hj) (by simp), fun f hfm => ?_, by rw [paint_old hlR]; exact h.cR, by rw [paint_old hlt.1]; exact h.ct, by rw [paint_old hlt.2]; exact h.cb,
    fun j hj => by rw [paint_old (h.rel.lt hj).2]; exact h.cX j hj, fun f hfm k hk => ?_, fun k hk => paint_far (by omega) hk, fun k hk => ?_⟩, hf.mono fun k _ hk => by rw [h.cE e he k hk]; simp⟩
  · have hcase : f ∈ Q1 ∨ f ∈ Q2 ∨ f = ⟨e.B, q', r'⟩ := by
      rw [List.mem_append, List.mem_cons] at hfm
      rcases hfm with a | a | a
      · exact .inl a
      · exact .inr (.inr a)
      · exact .inr (.inl a)
    rcases hcase with a | a | rfl
    · obtain ⟨m1, m2⟩ := hoth f (.inl a)
      exact (h.each f m1).fr hf fun k hk => ne (h.cE f m1 k hk) (by simp [m2])
    · obtain ⟨m1, m2⟩ := hoth f (.inr a)
      exact (h.each f m1).fr hf fun k hk => ne (h.cE f m1 k hk) (by simp [m2])
    · exact h1
  · have hcase : f ∈ Q1 ∨ f ∈ Q2 ∨ f = ⟨e.B, q', r'⟩ := by
      rw [List.mem_append, List.mem_cons] at hfm
      rcases hfm with a | a | a
      · exact .inl a
      · exact .inr (.inr a)
      · exact .inr (.inl a)
    rcases hcase with a | a | rfl
    · obtain ⟨m1, m2⟩ := hoth f (.inl a)
      rw [paint_old ((h.each f m1).lt k hk).2]; exact h.cE f m1 k hk
    · obtain ⟨m1, m2⟩ := hoth f (.inr a)
      rw [paint_old ((h.each f m1).lt k hk).2]; exact h.cE f m1 k hk
    · have hke : keyE ⟨e.B, q', r'⟩ = keyE e := by unfold keyE; simp only [hn]
      rw [hke]
      by_cases e2 : k < w.heap.size
      · rw [paint_old e2]; exact h.cE e he k (h3 k hk e2)
      · exact paint_new (by omega) (h1.lt k hk).2
  · have hbR : base ≤ w.heap.size := by have := h.bok.1; have := hlt.1; omega
    rw [paint_old (by omega)]; exact h.cB k hk
/-- a new room came -/
theorem RsPh.putTo (h : RsPh base w R t b tr X C mr mj mb Q L) {B : Nat} {q : RmV} {r : Rm} {w1 : World} (h1 : RoomAt w.heap.size B q r w1) (hb1 : RowKit.Below w.heap.size w w1) (hbok : BokP base w' t b mr ((Q ++ [(⟨B, q, r⟩ : RmE)]).map entE)) (hf : Fr (fun j => j = b) w1 w') :
    RsPh base w' R t b tr X (paint C w.heap.size w1.heap.size (4, foldL r.nm)) mr mj mb (Q ++ [⟨B, q, r⟩]) L ∧ Fr (fun k => C k ≠ tag0) w w' := by
  have hlR : R < w.heap.size := blk_lt h.self
  have hlt := bokP_lt h.bok
  have hbR : base ≤ w.heap.size := by have := h.bok.1; have := hlt.1; omega
  have hs1 := hb1.size
  have f1 : Fr (fun _ => False) w w1 := Fr.of_below hb1
  have g1 := h.below hb1
  have ne : ∀ {k : Nat} {g : Tag}, C k = g → g ≠ (2, []) → ¬ k = b := fun e1 hg hx => hg (by rw [← e1, hx, h.cb])
  have hnb : ∀ k, RmX B q k → k ≠ b := fun k hk e => by have := (h1.lt k hk).1; have := hlt.2; omega
  refine ⟨⟨hf.blk g1.self (ne h.cR (by simp)), hbok, g1.rel.fr hf fun j hj => ne (h.cX j hj) (by simp), fun f hfm => ?_, by rw [paint_old hlR]; exact h.cR, by rw [paint_old hlt.1]; exact h.ct, by rw [paint_old hlt.2]; exact h.cb,
    fun j hj => by rw [paint_old (h.rel.lt hj).2]; exact h.cX j hj, fun f hfm k hk => ?_, fun k hk => paint_far (by have := hf.size; omega) (by have := hf.size; omega), fun k hk => by rw [paint_old (by omega)]; exact h.cB k hk⟩, (f1.mono fun _ _ e => e.elim).trans3 hf fun k _ e => by rw [e, h.cb]; simp⟩
  · rcases List.mem_append.1 hfm with a | a
    · exact (g1.each f a).fr hf fun k hk => ne (h.cE f a k hk) (by simp)
    · obtain rfl := List.mem_singleton.1 a
      exact (h1.rebase hbR).fr hf hnb
  · rcases List.mem_append.1 hfm with a | a
    · rw [paint_old ((h.each f a).lt k hk).2]; exact h.cE f a k hk
    · obtain rfl := List.mem_singleton.1 a
      exact paint_new (h1.lt k hk).1 (h1.lt k hk).2
/-- the book changed: fewer rooms -/
theorem RsPh.lessTo (h : RsPh base w R t b tr X C mr mj mb Q L) {Q' : List RmE} (hs : ∀ e ∈ Q', e ∈ Q) (hbok : BokP base w' t b mr (Q'.map entE)) (hf : Fr (fun j => j = b) w w') :
    RsPh base w' R t b tr X C mr mj mb Q' L ∧ Fr (fun k => C k ≠ tag0) w w' := by
  have ne : ∀ {k : Nat} {g : Tag}, C k = g → g ≠ (2, []) → ¬ k = b := fun e1 hg hx => hg (by rw [← e1, hx, h.cb])
  exact ⟨⟨hf.blk h.self (ne h.cR (by simp)), hbok, h.rel.fr hf fun j hj => ne (h.cX j hj) (by simp), fun f hfm => (h.each f (hs f hfm)).fr hf fun k hk => ne (h.cE f (hs f hfm) k hk) (by simp), h.cR, h.ct, h.cb, h.cX, fun f hfm => h.cE f (hs f hfm), fun k hk => h.cN k (Nat.le_trans hf.size hk), h.cB⟩, hf.mono fun k _ e => by rw [e, h.cb]; simp⟩
end
end Go.Proofs.YtlkeomcillencaaGreat
end
section
/- Layer 20: mathematics of all rooms; what is read of them: rooms, joined, Get, Count, Len. -/
namespace Go.Proofs.YtlkeomcillencaaGreat
open Go Go.RowKit Go.Maps Go.Lib

/-- the room under a folded name -/
def getE (Q : List RmE) (k : List UInt8) : Option RmE := Q.find? fun e => decide (keyE e = k)
theorem lookE (Q : List RmE) (k : List UInt8) : lookM (Q.map entE) k = (getE Q k).map fun e => (entE e).2 := by
  unfold lookM getE
  rw [List.find?_map, Option.map_map]
  rfl
theorem getE_mem {Q : List RmE} {k : List UInt8} {e : RmE} (h : getE Q k = some e) : e ∈ Q ∧ keyE e = k := by
  have h2 := List.find?_some h
  exact ⟨List.mem_of_find?_eq_some h, by simpa using h2⟩
theorem getE_none {Q : List RmE} {k : List UInt8} (h : getE Q k = none) : ∀ e ∈ Q, keyE e ≠ k := fun e he => by
  have := List.find?_eq_none.1 h e he
  simpa using this
theorem getE_of {Q : List RmE} (hn : (Q.map keyE).Nodup) {e : RmE} (he : e ∈ Q) : getE Q (keyE e) = some e := by
  cases hg : getE Q (keyE e) with
  | none => exact absurd rfl (getE_none hg e he)
  | some f =>
    obtain ⟨h1, h2⟩ := getE_mem hg
    obtain ⟨A, B, rfl⟩ := List.append_of_mem he
    rw [List.map_append, List.map_cons, List.nodup_append, List.nodup_cons] at hn
    rcases List.mem_append.1 h1 with a | a
    · exact absurd h2 (hn.2.2 _ (List.mem_map_of_mem a) _ (List.mem_cons_self ..))
    · rcases List.mem_cons.1 a with rfl | a
      · rfl
      · exact absurd (List.mem_map_of_mem (f := keyE) a) (h2 ▸ hn.2.1.1)
theorem delE (Q : List RmE) (k : List UInt8) : delM (Q.map entE) k = (Q.filter fun e => decide (keyE e ≠ k)).map entE := by
  unfold delM
  rw [List.filter_map]
  rfl
theorem setE_new {Q : List RmE} {k : List UInt8} (h : getE Q k = none) (e : RmE) (he : keyE e = k) : setM (Q.map entE) k (entE e).2 = (Q ++ [e]).map entE := by
  have h1 : delM (Q.map entE) k = Q.map entE := lookM_none (by rw [lookE, h]; rfl)
  unfold delM at h1
  unfold setM
  rw [h1, List.map_append]
  subst he
  rfl
/-- where a room lies -/
def ptE (o : Option RmE) : Option Addr := o.map fun e => ⟨e.B, 0, none⟩
/-- the rooms of somebody -/
def ofQ (Q : List RmE) (id : Int) : List RmE := Q.filter fun e => hasM e.r.mem id
/-- what holds of the rooms and the relation -/
structure RsLg (n : Nat) (Q : List RmE) (L : List (Int × List UInt8)) : Prop where
  pairs : ∀ id k, (id, k) ∈ L ↔ ∃ e ∈ Q, keyE e = k ∧ hasM e.r.mem id = true
  full : ∀ e ∈ Q, e.r.mem ≠ []
  qlen : Q.length ≤ n
  llen : L.length ≤ n
  mlen : ∀ e ∈ Q, e.r.mem.length ≤ n
  inv : ∀ e ∈ Q, e.r.inv = []
  nms : ∀ e ∈ Q, e.r.nm.length ≤ 1000
theorem RsLg.more {n m : Nat} {Q : List RmE} {L : List (Int × List UInt8)} (h : RsLg n Q L) (hm : n ≤ m) : RsLg m Q L := ⟨h.pairs, h.full, Nat.le_trans h.qlen hm, Nat.le_trans h.llen hm, fun e he => Nat.le_trans (h.mlen e he) hm, h.inv, h.nms⟩
theorem RsLg.of_perm {n : Nat} {Q : List RmE} {L : List (Int × List UInt8)} (h : RsLg n Q L) (hk : (Q.map keyE).Nodup) {id : Int} {xs : List (List UInt8)} (h1 : xs.Pairwise (· < ·)) (h2 : ∀ k, k ∈ xs ↔ (id, k) ∈ L) : xs.Perm ((ofQ Q id).map keyE) := by
  refine (List.perm_ext_iff_of_nodup (up_nodupS h1) (hk.sublist ((List.filter_sublist).map keyE))).2 fun k => ?_
  rw [h2, h.pairs, List.mem_map]
  constructor
  · rintro ⟨e, a, b, c⟩; exact ⟨e, List.mem_filter.2 ⟨a, c⟩, b⟩
  · rintro ⟨e, a, b⟩; exact ⟨e, (List.mem_filter.1 a).1, b, (List.mem_filter.1 a).2⟩
theorem RsLg.keyLen {n : Nat} {Q : List RmE} {L : List (Int × List UInt8)} (h : RsLg n Q L) {id : Int} {k : List UInt8} (hk : (id, k) ∈ L) : k.length ≤ 1000 := by
  obtain ⟨e, a, rfl, _⟩ := (h.pairs id k).1 hk
  unfold keyE; rw [foldL_length]; exact h.nms e a
theorem okKSI_of {k : List UInt8} (h : k.length ≤ 1000) : OkKSI k := by unfold OkKSI maxLen; omega
section
variable {base : Nat} {w w' : World} {R t b tr : Nat} {X : Nat → Prop} {C : Nat → Tag} {mr mj mb : Int} {Q : List RmE} {L : List (Int × List UInt8)}
theorem rooms_any (h : RsPh base w R t b tr X C mr mj mb Q L) : Calls Tryz.prog 52 #[.pointer (some ⟨R, 0, none⟩)] w fun e w' => e = .returned (.pointer (some ⟨t, 0, none⟩)) ∧ w' = w := by
  have c := blk_cell h.self 15
  clear h
  go_enter Tryz.func52, Tryz.ntmps52
  go_wp2_with fail
  go_ret
  exact ⟨rfl, rfl⟩
theorem joined_any (h : RsPh base w R t b tr X C mr mj mb Q L) : Calls Tryz.prog 38 #[.pointer (some ⟨R, 0, none⟩)] w fun e w' => e = .returned (.pointer (some ⟨tr, 0, none⟩)) ∧ w' = w := by
  have c := blk_cell h.self 16
  clear h
  go_enter Tryz.func38, Tryz.ntmps38
  go_wp2_with fail
  go_ret
  exact ⟨rfl, rfl⟩
theorem rooms_nil (w : World) : Calls Tryz.prog 52 #[.pointer none] w fun e w' => e = .returned (.pointer none) ∧ w' = w := by
  go_enter Tryz.func52, Tryz.ntmps52
  go_wp2_with fail
  go_ret
  exact ⟨rfl, rfl⟩
theorem joined_nil (w : World) : Calls Tryz.prog 38 #[.pointer none] w fun e w' => e = .returned (.pointer none) ∧ w' = w := by
  go_enter Tryz.func38, Tryz.ntmps38
  go_wp2_with fail
  go_ret
  exact ⟨rfl, rfl⟩
def GetP (Q : List RmE) (k : List UInt8) (w : World) (e : Ending) (w' : World) : Prop := e = .returned (.tuple #[.pointer (ptE (getE Q k)), .bool (getE Q k).isSome]) ∧ RowKit.Below w.heap.size w w'
theorem get_any (h : RsPh base w R t b tr X C mr mj mb Q L) (nm : List UInt8) (hn : nm.length ≤ 1000000) : Calls Tryz.prog 18 #[.pointer (some ⟨R, 0, none⟩), .string (bs nm)] w (GetP Q (foldL nm) w) := by
  have HR := Lib.hid (rooms_any h)
  have HG := Lib.hid (bok_getP h.bok (name := bs nm) (by simpa using hn))
  unfold GetP
  have hv : thVP ((lookM (Q.map entE) (foldL nm)).getD zeroEP).thing = .pointer (ptE (getE Q (foldL nm))) := by
    rw [lookE]
    cases getE Q (foldL nm) with
    | none => rfl
    | some e => rfl
  have hi : (lookM (Q.map entE) (foldL nm)).isSome = (getE Q (foldL nm)).isSome := by rw [lookE, Option.isSome_map]
  rw [bs_toList, hv, hi] at HG
  obtain ⟨p, hp⟩ : ∃ p, ptE (getE Q (foldL nm)) = p := ⟨_, rfl⟩
  obtain ⟨i, hi⟩ : ∃ i, (getE Q (foldL nm)).isSome = i := ⟨_, rfl⟩
  rw [hp, hi] at HG ⊢
  clear h hv hp hi
  go_enter Tryz.func18, Tryz.ntmps18
  go_wp2_with fail
  refine HR.out.mono ?_
  rintro e w1 ⟨rfl, rfl⟩
  clear HR
  go_wp2_with fail
  refine HG.out.mono ?_
  rintro e w2 ⟨rfl, hb⟩
  have HB := Lib.hid hb
  clear hb HG
  go_wp2_with fail
  go_ret2
  exact ⟨rfl, HB.out⟩
theorem get_nil (nm : ByteArray) (w : World) : Calls Tryz.prog 18 #[.pointer none, .string nm] w fun e w' => e = .returned (.tuple #[.pointer none, .bool false]) ∧ RowKit.Below w.heap.size w w' := by
  have HR := Lib.hid (rooms_nil w)
  have HG := Lib.hid (bok_get_nilP nm w)
  unfold thVP zeroEP adP at HG
  go_enter Tryz.func18, Tryz.ntmps18
  go_wp2_with fail
  refine HR.out.mono ?_
  rintro e w1 ⟨rfl, rfl⟩
  clear HR
  go_wp2_with fail
  refine HG.out.mono ?_
  rintro e w2 ⟨rfl, hb⟩
  have HB := Lib.hid hb
  clear hb HG
  go_wp2_with fail
  go_ret2
  exact ⟨rfl, HB.out⟩
theorem count_any (h : RsPh base w R t b tr X C mr mj mb Q L) {n : Nat} (hl : RsLg n Q L) {id : Int} (hid : OkKIS id) (hn : n ≤ 90000) : Calls Tryz.prog 21 #[.pointer (some ⟨R, 0, none⟩), .int .i64 id] w fun e w' => e = .returned (.int .i64 (ofQ Q id).length) ∧ w' = w := by
  have HR := Lib.hid (joined_any h)
  obtain ⟨xs, h1, h2, h3, _⟩ := ofAtIS h.rel (by have := hl.llen; omega) hid
  have HC := Lib.hid (countAtIS h.rel hid h1 h2)
  have hx : xs.length = (ofQ Q id).length := by rw [(hl.of_perm h.keys h1 h2).length_eq, List.length_map]
  rw [hx] at HC
  clear h1 h2 h3 hx h hl
  go_enter Tryz.func21, Tryz.ntmps21
  go_wp2_with fail
  refine HR.out.mono ?_
  rintro e w1 ⟨rfl, rfl⟩
  clear HR
  go_wp2_with fail
  refine HC.out.mono ?_
  rintro e w2 ⟨rfl, rfl⟩
  clear HC
  go_wp2_with fail
  go_ret
  exact ⟨rfl, rfl⟩
theorem count_nil (id : Int) (w : World) : Calls Tryz.prog 21 #[.pointer none, .int .i64 id] w fun e w' => e = .returned (.int .i64 0) ∧ w' = w := by
  have HR := Lib.hid (joined_nil w)
  have HC := Lib.hid (relCountNilIS id w)
  go_enter Tryz.func21, Tryz.ntmps21
  go_wp2_with fail
  refine HR.out.mono ?_
  rintro e w1 ⟨rfl, rfl⟩
  clear HR
  go_wp2_with fail
  refine HC.out.mono ?_
  rintro e w2 ⟨rfl, rfl⟩
  clear HC
  go_wp2_with fail
  go_ret
  exact ⟨rfl, rfl⟩
theorem len_any (h : RsPh base w R t b tr X C mr mj mb Q L) : Calls Tryz.prog 20 #[.pointer (some ⟨R, 0, none⟩)] w fun e w' => e = .returned (.int .i64 Q.length) ∧ w' = w := by
  have HR := Lib.hid (rooms_any h)
  have HC := Lib.hid (bok_lenP h.bok)
  rw [List.length_map] at HC
  clear h
  go_enter Tryz.func20, Tryz.ntmps20
  go_wp2_with fail
  refine HR.out.mono ?_
  rintro e w1 ⟨rfl, rfl⟩
  clear HR
  go_wp2_with fail
  refine HC.out.mono ?_
  rintro e w2 ⟨rfl, rfl⟩
  clear HC
  go_wp2_with fail
  go_ret
  exact ⟨rfl, rfl⟩
theorem len_nil (w : World) : Calls Tryz.prog 20 #[.pointer none] w fun e w' => e = .returned (.int .i64 0) ∧ w' = w := by
  have HR := Lib.hid (rooms_nil w)
  have HC := Lib.hid (bok_len_nilP w)
  go_enter Tryz.func20, Tryz.ntmps20
  go_wp2_with fail
  refine HR.out.mono ?_
  rintro e w1 ⟨rfl, rfl⟩
  clear HR
  go_wp2_with fail
  refine HC.out.mono ?_
  rintro e w2 ⟨rfl, rfl⟩
  clear HC
  go_wp2_with fail
  go_ret
  exact ⟨rfl, rfl⟩
end
end Go.Proofs.YtlkeomcillencaaGreat
end
