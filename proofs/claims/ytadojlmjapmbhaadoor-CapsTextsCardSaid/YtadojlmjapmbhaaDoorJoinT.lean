/- strings.Join of a row of texts of the call's own (or nil). -/
import Derived.Test.YtadojlmjapmbhaaDoorRowT
import Derived.Test.YtadojlmjapmbhaaDoorShelf
namespace Go.Proofs.YtadojlmjapmbhaaDoor
set_option linter.unusedVariables false
set_option linter.unusedSimpArgs false
open Go Go.RowKit Go.Lib

theorem bs_back (l : List UInt8) : (bs l).data.toList = l := rfl
theorem join_own {base : Nat} {W : World} {A : Option Addr} {c : Nat} {xs : List (List UInt8)} (h : OwnT base W (.slice A xs.length c) xs) (sep : ByteArray) (hl : (Lib.join xs sep.data.toList).length ≤ 1000000) (hn : xs.length ≤ 1000000) :
    Calls Tryd.prog 17 #[.slice A xs.length c, .string sep] W fun e w' => e = .returned (.string (bs (Lib.join xs sep.data.toList))) ∧ RowKit.Below W.heap.size W w' := by
  rcases h.2 with ⟨h1, h2⟩ | ⟨g, cap, cur, h1, h3, h4, h5, h8, h6, h7⟩
  · have h3 : xs = [] := List.length_eq_zero_iff.1 h2
    subst h3
    refine (Tryd.strings_Join_none A c sep W).mono ?_
    rintro e w' ⟨rfl, rfl⟩
    exact ⟨by rw [Lib.join_nil]; rfl, Below.refl _ _⟩
  · injection h1 with q1 q2 q3
    subst q1
    have hr := reads_ownT h
    have hm : (xs.map fun x => (bs x)).map (fun x => x.data.toList) = xs := by
      rw [List.map_map]
      exact List.map_id' xs
    have := Tryd.strings_Join g 0 c (xs.map fun x => bs x) sep W (fun j x hj => by
      rw [List.getElem?_map, Option.map_eq_some_iff] at hj
      obtain ⟨y, hy, rfl⟩ := hj
      have hlt : j < xs.length := (List.getElem?_eq_some_iff.1 hy).1
      obtain ⟨g', o, e1, hg, hc⟩ := hr (by omega)
      injection e1 with e1
      injection e1 with e1 e2 _
      subst e1
      subst e2
      rw [hc j hlt, (List.getElem?_eq_some_iff.1 hy).2]) (blk_lt h4) (by rw [List.length_map]; omega) (by rw [List.length_map]; omega) (by rw [hm]; omega)
    rw [List.length_map, hm] at this
    exact this
end Go.Proofs.YtadojlmjapmbhaaDoor
