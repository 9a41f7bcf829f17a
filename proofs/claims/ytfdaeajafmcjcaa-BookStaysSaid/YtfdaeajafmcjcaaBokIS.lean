/- Layer 2: rows of entries of a book of string, sorted by folded names. -/
import Derived.Test.YtfdaeajafmcjcaaBokHS
import Derived.Test.YtfdaeajafmcjcaaBokO
import Derived.Test.YtfdaeajafmcjcaaAppT
import Derived.Test.YtfdaeajafmcjcaaShelf
import Derived.Shelf.SlSortCmp.NoneTotal
import Derived.Stop.RegionWithIn
import Derived.OwnWalk
namespace Go.Proofs.Ytfdaeajafmcjcaa
set_option linter.unusedVariables false
set_option linter.unusedSimpArgs false
open Go Go.RowKit Go.Maps Go.Sort Go.Shelf Go.Lib
attribute [local go_sem] Oper.semAt_some

set_option maxHeartbeats 1000000 in
theorem book_cmpS (a b : Ent VS) (W : World) : Calls Try.prog 48 #[.agg (encES a).toArray, .agg (encES b).toArray] W fun e w' => e = .returned (.int .i64 (cmpS a.fold b.fold)) ∧ ∃ q os', w' = grow (W.drewN q) os' := by
  obtain ⟨a1, a2, a3⟩ := a
  obtain ⟨b1, b2, b3⟩ := b
  obtain ⟨w2, hw2⟩ : ∃ w2, (W.alloc (Obj.cells #[.string a1, .string (bs a2), .string a3] 83)).alloc (Obj.cells #[.string b1, .string (bs b2), .string b3] 83) = w2 := ⟨_, rfl⟩
  have k1 : w2.heap[W.heap.size]? = some (.cells #[.string a1, .string (bs a2), .string a3] 83 (0, 0)) := by rw [← hw2]; exact blk_alloc (heap_alloc_new W _) _
  have k2 : w2.heap[W.heap.size + 1]? = some (.cells #[.string b1, .string (bs b2), .string b3] 83 (0, 0)) := by
    rw [← hw2]
    have := heap_alloc_new (W.alloc (Obj.cells #[.string a1, .string (bs a2), .string a3] 83)) (Obj.cells #[.string b1, .string (bs b2), .string b3] 83)
    rwa [World.size_alloc] at this
  have c1 := blk_cell k1 1
  have c2 := blk_cell k2 1
  have HW := Lib.hid hw2
  have hg : w2 = grow (W.drewN 0) #[(Obj.cells #[.string a1, .string (bs a2), .string a3] 83), (Obj.cells #[.string b1, .string (bs b2), .string b3] 83)] := by
    rw [← hw2, alloc_eq_grow, alloc_eq_grow, grow_grow]; rfl
  have HG := Lib.hid hg
  clear k1 k2 hw2 hg
  unfold encES thVS
  go_enter Try.func48, Try.ntmps48
  go_wp2_with fail
  rw [HW.out]
  refine (cmp_str a2 b2 w2).mono ?_
  rintro e w3 ⟨rfl, rfl⟩
  go_wp2_with fail
  go_ret
  exact ⟨rfl, 0, _, HG.out⟩
/-- what a folded name stands with -/
def withES (xs : List (Ent VS)) (k : KeyB) : Ent VS := (xs.find? fun e => decide (e.fold = k)).getD ⟨⟨#[]⟩, k, ⟨#[]⟩⟩
theorem withES_fold (xs : List (Ent VS)) (k : KeyB) : (withES xs k).fold = k := by
  unfold withES
  cases h : xs.find? fun e => decide (e.fold = k) with
  | none => rfl
  | some e => simpa using List.find?_some h
theorem withES_mem {xs : List (Ent VS)} (h : (xs.map (·.fold)).Nodup) {e : Ent VS} (he : e ∈ xs) : withES xs e.fold = e := by
  unfold withES
  induction xs with
  | nil => cases he
  | cons a r ih =>
    rw [List.map_cons, List.nodup_cons] at h
    by_cases hk : a.fold = e.fold
    · rcases List.mem_cons.1 he with rfl | he
      · simp
      · exact absurd (hk ▸ List.mem_map_of_mem he) h.1
    · rcases List.mem_cons.1 he with rfl | he
      · exact absurd rfl hk
      · rw [List.find?_cons_of_neg (by simpa using hk)]
        exact ih h.2 he
theorem withES_map {xs : List (Ent VS)} (h : (xs.map (·.fold)).Nodup) : (xs.map (·.fold)).map (withES xs) = xs := by
  rw [List.map_map]
  conv => rhs; rw [← List.map_id xs]
  apply List.map_congr_left
  intro e he
  exact withES_mem h he
theorem sort_bookS {base : Nat} {W : World} {v : Value} {xs : List (Ent VS)} (h : OwnES base W v xs) (hn : (xs.map (·.fold)).Nodup) (hl : xs.length ≤ 1000000) :
    Calls Try.prog 47 #[v, .func (.func 48) #[] #[]] W fun e W' => e = .returned (.tuple #[]) ∧ (∃ R, OwnES base W' v R ∧ (R.Pairwise fun x y => x.fold < y.fold) ∧ R.Perm xs) ∧ Fr (fun j => v.ownBlock = some j) W W' := by
  have eg : ∀ args w, (callFunc 48 args).run Try.prog w = .ok (.enter 48 args) w := enters_of Try.func48 (by kernel_rfl) rfl
  have e0 : ∀ l : List KeyB, l.flatMap (fun k => encES (withES xs k)) = (l.map (withES xs)).flatMap encES := fun l => by rw [List.flatMap_map]
  have h' : W.ownsRow base 83 3 v (xs.map (·.fold)).length ((xs.map (·.fold)).flatMap fun k => encES (withES xs k)) := by
    rw [e0, withES_map hn, List.length_map]; exact h
  have hc := sort_row (P := Try.prog) (f := 47) (e := 83) (fun k => encES (withES xs k)) 3 (fun _ => rfl) (by decide) sortO (fun l => (sortO_perm l).length_eq) (.func (.func 48) #[] #[])
    (fun g cap d w hH hg hd => AnyQ.slices_SortFunc_total Try.sortS 3 Try.isAgg83 Try.sizeOf83 (fun k => encES (withES xs k)) (fun _ => rfl) (fun x v hv => by simp [encES, thVS] at hv; rcases hv with rfl | rfl | rfl <;> rfl) cmpS swoO 48 #[] g 0 cap d w eg (fun _ _ _ _ x y => by have := book_cmpS (withES xs x) (withES xs y); rw [withES_fold, withES_fold] at this; exact this _) hH hg hd totO)
    (fun w => AnyF.slices_SortFunc_none { Try.sortS with } none 0 _ w) h' (by rw [List.length_map]; exact hl)
  refine hc.mono ?_
  rintro e W' ⟨h1, h2, h3⟩
  refine ⟨h1, ⟨(sortO (xs.map (·.fold))).map (withES xs), ?_, ?_, ?_⟩, h3⟩
  · rw [e0] at h2
    unfold OwnES
    rw [List.length_map, (sortO_perm _).length_eq]
    exact h2
  · refine List.pairwise_map.2 ((sortO_rise hn).imp fun {a b} hab => ?_)
    rw [withES_fold, withES_fold]; exact hab
  · have := (sortO_perm (xs.map (·.fold))).map (withES xs)
    rwa [withES_map hn] at this
end Go.Proofs.Ytfdaeajafmcjcaa
