/- Layer 2: rows of entries of a book of int, sorted by folded names. -/
import Derived.Test.YtfdaeajafmcjcaaBokHI
import Derived.Test.YtfdaeajafmcjcaaBokO
import Derived.Test.YtfdaeajafmcjcaaAppT
import Derived.Test.YtfdaeajafmcjcaaShelf
import Derived.Shelf.SlSortCmp.NoneTotal
import Derived.Stop.RegionWithIn
import Derived.OwnWalk
namespace Go.Proofs.Ytfdaeajafmcjcaa
set_option linter.unusedVariables false
set_option linter.unusedSimpArgs false
open Go Go.RowKit Go.Maps Go.Sort Go.Shelf Go.Lib
attribute [local go_sem] Oper.semAt_some

set_option maxHeartbeats 1000000 in
theorem book_cmpI (a b : Ent VI) (W : World) : Calls Try.prog 56 #[.agg (encEI a).toArray, .agg (encEI b).toArray] W fun e w' => e = .returned (.int .i64 (cmpS a.fold b.fold)) ∧ ∃ q os', w' = grow (W.drewN q) os' := by
  obtain ⟨a1, a2, a3⟩ := a
  obtain ⟨b1, b2, b3⟩ := b
  obtain ⟨w2, hw2⟩ : ∃ w2, (W.alloc (Obj.cells #[.string a1, .string (bs a2), .int .i64 a3] 70)).alloc (Obj.cells #[.string b1, .string (bs b2), .int .i64 b3] 70) = w2 := ⟨_, rfl⟩
  have k1 : w2.heap[W.heap.size]? = some (.cells #[.string a1, .string (bs a2), .int .i64 a3] 70 (0, 0)) := by rw [← hw2]; exact blk_alloc (heap_alloc_new W _) _
  have k2 : w2.heap[W.heap.size + 1]? = some (.cells #[.string b1, .string (bs b2), .int .i64 b3] 70 (0, 0)) := by
    rw [← hw2]
    have := heap_alloc_new (W.alloc (Obj.cells #[.string a1, .string (bs a2), .int .i64 a3] 70)) (Obj.cells #[.string b1, .string (bs b2), .int .i64 b3] 70)
    rwa [World.size_alloc] at this
  have c1 := blk_cell k1 1
  have c2 := blk_cell k2 1
  have HW := Lib.hid hw2
  have hg : w2 = grow (W.drewN 0) #[(Obj.cells #[.string a1, .string (bs a2), .int .i64 a3] 70), (Obj.cells #[.string b1, .string (bs b2), .int .i64 b3] 70)] := by
    rw [← hw2, alloc_eq_grow, alloc_eq_grow, grow_grow]; rfl
  have HG := Lib.hid hg
  clear k1 k2 hw2 hg
  unfold encEI thVI
  go_enter Try.func56, Try.ntmps56
  go_wp2_with fail
  rw [HW.out]
  refine (cmp_str a2 b2 w2).mono ?_
  rintro e w3 ⟨rfl, rfl⟩
  go_wp2_with fail
  go_ret
  exact ⟨rfl, 0, _, HG.out⟩
/-- what a folded name stands with -/
def withEI (xs : List (Ent VI)) (k : KeyB) : Ent VI := (xs.find? fun e => decide (e.fold = k)).getD ⟨⟨#[]⟩, k, 0⟩
theorem withEI_fold (xs : List (Ent VI)) (k : KeyB) : (withEI xs k).fold = k := by
  unfold withEI
  cases h : xs.find? fun e => decide (e.fold = k) with
  | none => rfl
  | some e => simpa using List.find?_some h
theorem withEI_mem {xs : List (Ent VI)} (h : (xs.map (·.fold)).Nodup) {e : Ent VI} (he : e ∈ xs) : withEI xs e.fold = e := by
  unfold withEI
  induction xs with
  | nil => cases he
  | cons a r ih =>
    rw [List.map_cons, List.nodup_cons] at h
    by_cases hk : a.fold = e.fold
    · rcases List.mem_cons.1 he with rfl | he
      · simp
      · exact absurd (hk ▸ List.mem_map_of_mem he) h.1
    · rcases List.mem_cons.1 he with rfl | he
      · exact absurd rfl hk
      · rw [List.find?_cons_of_neg (by simpa using hk)]
        exact ih h.2 he
theorem withEI_map {xs : List (Ent VI)} (h : (xs.map (·.fold)).Nodup) : (xs.map (·.fold)).map (withEI xs) = xs := by
  rw [List.map_map]
  conv => rhs; rw [← List.map_id xs]
  apply List.map_congr_left
  intro e he
  exact withEI_mem h he
theorem sort_bookI {base : Nat} {W : World} {v : Value} {xs : List (Ent VI)} (h : OwnEI base W v xs) (hn : (xs.map (·.fold)).Nodup) (hl : xs.length ≤ 1000000) :
    Calls Try.prog 55 #[v, .func (.func 56) #[] #[]] W fun e W' => e = .returned (.tuple #[]) ∧ (∃ R, OwnEI base W' v R ∧ (R.Pairwise fun x y => x.fold < y.fold) ∧ R.Perm xs) ∧ Fr (fun j => v.ownBlock = some j) W W' := by
  have eg : ∀ args w, (callFunc 56 args).run Try.prog w = .ok (.enter 56 args) w := enters_of Try.func56 (by kernel_rfl) rfl
  have e0 : ∀ l : List KeyB, l.flatMap (fun k => encEI (withEI xs k)) = (l.map (withEI xs)).flatMap encEI := fun l => by rw [List.flatMap_map]
  have h' : W.ownsRow base 70 3 v (xs.map (·.fold)).length ((xs.map (·.fold)).flatMap fun k => encEI (withEI xs k)) := by
    rw [e0, withEI_map hn, List.length_map]; exact h
  have hc := sort_row (P := Try.prog) (f := 55) (e := 70) (fun k => encEI (withEI xs k)) 3 (fun _ => rfl) (by decide) sortO (fun l => (sortO_perm l).length_eq) (.func (.func 56) #[] #[])
    (fun g cap d w hH hg hd => AnyQ.slices_SortFunc_total Try.sortI 3 Try.isAgg70 Try.sizeOf70 (fun k => encEI (withEI xs k)) (fun _ => rfl) (fun x v hv => by simp [encEI, thVI] at hv; rcases hv with rfl | rfl | rfl <;> rfl) cmpS swoO 56 #[] g 0 cap d w eg (fun _ _ _ _ x y => by have := book_cmpI (withEI xs x) (withEI xs y); rw [withEI_fold, withEI_fold] at this; exact this _) hH hg hd totO)
    (fun w => AnyF.slices_SortFunc_none { Try.sortI with } none 0 _ w) h' (by rw [List.length_map]; exact hl)
  refine hc.mono ?_
  rintro e W' ⟨h1, h2, h3⟩
  refine ⟨h1, ⟨(sortO (xs.map (·.fold))).map (withEI xs), ?_, ?_, ?_⟩, h3⟩
  · rw [e0] at h2
    unfold OwnEI
    rw [List.length_map, (sortO_perm _).length_eq]
    exact h2
  · refine List.pairwise_map.2 ((sortO_rise hn).imp fun {a b} hab => ?_)
    rw [withEI_fold, withEI_fold]; exact hab
  · have := (sortO_perm (xs.map (·.fold))).map (withEI xs)
    rwa [withEI_map hn] at this
end Go.Proofs.Ytfdaeajafmcjcaa
