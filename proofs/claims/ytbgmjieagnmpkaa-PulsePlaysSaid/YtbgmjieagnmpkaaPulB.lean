/- Layer 16: rows of what is due, sorted by numbers. -/
import Derived.Test.YtbgmjieagnmpkaaTimGI
import Derived.Test.YtbgmjieagnmpkaaPulA
namespace Go.Proofs.Ytbgmjieagnmpkaa
set_option linter.unusedVariables false
set_option linter.unusedSimpArgs false
open Go Go.RowKit Go.Maps Go.Sort Go.Shelf Go.Lib
attribute [local go_sem] Oper.semAt_some

theorem Try.infoDD : (Try.prog.info? 115).map (fun i => (i.zero, i.size, i.bytes)) = some (some (.agg #[.int .i64 0, .int .i64 0]), 2, 16) := by kernel_rfl
def encD (x : Int × Int) : List Value := [.int .i64 x.1, .int .i64 x.2]
/-- a row of what is due of the call's own -/
def OwnD (base : Nat) (W : World) (v : Value) (xs : List (Int × Int)) : Prop := W.ownsRow base 115 2 v xs.length (xs.flatMap encD)
theorem ownD_nil (base : Nat) (w : World) : OwnD base w (.slice none 0 0) [] := World.ownsRow_nil _ _ _ _
theorem ownD_kept {base : Nat} {w W : World} {v : Value} {xs : List (Int × Int)} (h : OwnD base w v xs) (hs : ∀ g, v.ownBlock = some g → W.heap[g]? = w.heap[g]?) : OwnD base W v xs := row_same h hs
theorem ownD_snoc {base : Nat} {w : World} {v : Value} {xs : List (Int × Int)} {x : Int × Int} (h : w.ownsRow base 115 2 v (xs.length + 1) (xs.flatMap encD ++ encD x)) : OwnD base w v (xs ++ [x]) := by
  unfold OwnD; rw [List.length_append, List.flatMap_append]; simpa using h
theorem ownD_base {W : World} {base base' : Nat} {v : Value} {xs : List (Int × Int)} (h : OwnD base W v xs) (hb : base' ≤ base) : OwnD base' W v xs := by
  obtain ⟨h1, h2⟩ := h
  refine ⟨h1, ?_⟩
  rcases h2 with h2 | ⟨g, cap, cur, h3, h4, h5⟩
  · exact .inl h2
  · exact .inr ⟨g, cap, cur, h3, by omega, h5⟩
set_option maxHeartbeats 1000000 in
theorem take_cmp (a b : Int × Int) (W : World) : Calls Try.prog 68 #[.agg (encD a).toArray, .agg (encD b).toArray] W fun e w' => e = .returned (.int .i64 (cmpI a.1 b.1)) ∧ ∃ q os', w' = grow (W.drewN q) os' := by
  obtain ⟨a1, a2⟩ := a
  obtain ⟨b1, b2⟩ := b
  obtain ⟨w2, hw2⟩ : ∃ w2, (W.alloc (Obj.cells #[.int .i64 a1, .int .i64 a2] 115)).alloc (Obj.cells #[.int .i64 b1, .int .i64 b2] 115) = w2 := ⟨_, rfl⟩
  have k1 : w2.heap[W.heap.size]? = some (.cells #[.int .i64 a1, .int .i64 a2] 115 (0, 0)) := by rw [← hw2]; exact blk_alloc (heap_alloc_new W _) _
  have k2 : w2.heap[W.heap.size + 1]? = some (.cells #[.int .i64 b1, .int .i64 b2] 115 (0, 0)) := by
    rw [← hw2]
    have := heap_alloc_new (W.alloc (Obj.cells #[.int .i64 a1, .int .i64 a2] 115)) (Obj.cells #[.int .i64 b1, .int .i64 b2] 115)
    rwa [World.size_alloc] at this
  have c1 := blk_cell k1 0
  have c2 := blk_cell k2 0
  have HW := Lib.hid hw2
  have hg : w2 = grow (W.drewN 0) #[(Obj.cells #[.int .i64 a1, .int .i64 a2] 115), (Obj.cells #[.int .i64 b1, .int .i64 b2] 115)] := by
    rw [← hw2, alloc_eq_grow, alloc_eq_grow, grow_grow]; rfl
  have HG := Lib.hid hg
  clear k1 k2 hw2 hg
  unfold encD
  go_enter Try.func68, Try.ntmps68
  go_wp2_with fail
  rw [HW.out]
  refine (cmp_int a1 b1 w2).mono ?_
  rintro e w3 ⟨rfl, rfl⟩
  go_wp2_with fail
  go_ret
  exact ⟨rfl, 0, _, HG.out⟩
theorem ltD (x y : Int) : ltOf cmpI x y = decide (x < y) := by
  unfold ltOf
  rw [decide_eq_decide]
  exact cmpKI_neg x y
theorem swoD : SWO (ltOf cmpI) where
  irrefl x := by rw [ltD]; simp
  trans x y z h k := by rw [ltD] at *; simp only [decide_eq_true_eq] at *; omega
  ntrans x y z h k := by rw [ltD] at *; simp only [decide_eq_false_iff_not] at *; omega
theorem totD (x y : Int) (h : ltOf cmpI x y = false) (k : ltOf cmpI y x = false) : x = y := by
  rw [ltD] at *
  simp only [decide_eq_false_iff_not] at *
  omega
def sortD1 (l : List Int) : List Int := l.mergeSort fun x y => !ltOf cmpI y x
theorem sortD1_perm (l : List Int) : (sortD1 l).Perm l := List.mergeSort_perm _ _
theorem sortD1_rise {l : List Int} (hn : l.Nodup) : (sortD1 l).Pairwise fun x y => x < y := by
  have h1 : (sortD1 l).Pairwise fun x y => ¬ y < x := by
    refine (List.pairwise_mergeSort (le := fun x y => !ltOf cmpI y x) ?_ ?_ l).imp ?_
    · intro a b c h k
      simp only [Bool.not_eq_true'] at *
      exact swoD.ntrans _ _ _ k h
    · intro a b
      rw [ltD, ltD]
      simp
      omega
    · intro a b h
      rw [ltD] at h
      simpa using h
  have h2 : (sortD1 l).Nodup := (sortD1_perm l).nodup_iff.2 hn
  exact (h1.and h2).imp fun {a b} ⟨p, q⟩ => by omega
/-- what a number stands with -/
def withD (xs : List (Int × Int)) (i : Int) : Int := (lookM xs i).getD 0
theorem withD_map {xs : List (Int × Int)} (h : (xs.map (·.1)).Nodup) : (xs.map (·.1)).map (fun i => (i, withD xs i)) = xs := by
  rw [List.map_map]
  conv => rhs; rw [← List.map_id xs]
  apply List.map_congr_left
  intro p hp
  simp only [Function.comp, id]
  unfold withD
  rw [(lookM_mem h).2 hp]
  rfl
theorem sort_due {base : Nat} {W : World} {v : Value} {xs : List (Int × Int)} (h : OwnD base W v xs) (hn : (xs.map (·.1)).Nodup) (hl : xs.length ≤ 1000000) :
    Calls Try.prog 67 #[v, .func (.func 68) #[] #[]] W fun e W' => e = .returned (.tuple #[]) ∧ (∃ R, OwnD base W' v R ∧ (R.Pairwise fun x y => x.1 < y.1) ∧ (∀ p, p ∈ R ↔ p ∈ xs) ∧ R.length = xs.length) ∧ Fr (fun j => v.ownBlock = some j) W W' := by
  have eg : ∀ args w, (callFunc 68 args).run Try.prog w = .ok (.enter 68 args) w := enters_of Try.func68 (by kernel_rfl) rfl
  have e0 : ∀ l : List Int, l.flatMap (fun i => encD (i, withD xs i)) = (l.map fun i => (i, withD xs i)).flatMap encD := fun l => by rw [List.flatMap_map]
  have h' : W.ownsRow base 115 2 v (xs.map (·.1)).length ((xs.map (·.1)).flatMap fun i => encD (i, withD xs i)) := by
    rw [e0, withD_map hn, List.length_map]; exact h
  have hc := sort_row (P := Try.prog) (f := 67) (e := 115) (fun i => encD (i, withD xs i)) 2 (fun _ => rfl) (by decide) sortD1 (fun l => (sortD1_perm l).length_eq) (.func (.func 68) #[] #[])
    (fun g cap d w hH hg hd => AnyQ.slices_SortFunc_total Try.sortD 2 Try.isAgg115 Try.sizeOf115 (fun i => encD (i, withD xs i)) (fun _ => rfl) (fun x v hv => by simp [encD] at hv; rcases hv with rfl | rfl <;> rfl) cmpI swoD 68 #[] g 0 cap d w eg (fun _ _ _ _ x y => take_cmp _ _ _) hH hg hd totD)
    (fun w => AnyF.slices_SortFunc_none { Try.sortD with } none 0 _ w) h' (by rw [List.length_map]; exact hl)
  refine hc.mono ?_
  rintro e W' ⟨h1, h2, h3⟩
  refine ⟨h1, ⟨(sortD1 (xs.map (·.1))).map fun i => (i, withD xs i), ?_, ?_, fun p => ?_, ?_⟩, h3⟩
  · rw [e0] at h2
    unfold OwnD
    rw [List.length_map, (sortD1_perm _).length_eq]
    exact h2
  · exact List.pairwise_map.2 (sortD1_rise hn)
  · constructor
    · intro hp
      obtain ⟨i, hi, rfl⟩ := List.mem_map.1 hp
      have := List.mem_map_of_mem (f := fun i => (i, withD xs i)) ((sortD1_perm _).mem_iff.1 hi)
      rwa [withD_map hn] at this
    · intro hp
      have hm : p ∈ (xs.map (·.1)).map fun i => (i, withD xs i) := by rw [withD_map hn]; exact hp
      obtain ⟨i, hi, rfl⟩ := List.mem_map.1 hm
      exact List.mem_map.2 ⟨i, (sortD1_perm _).mem_iff.2 hi, rfl⟩
  · rw [List.length_map, (sortD1_perm _).length_eq, List.length_map]
end Go.Proofs.Ytbgmjieagnmpkaa
