/- Layer 10: a set and a row of the call's own, apart; what Add and Remove make of both. -/
import Derived.Test.YteiiaocohpbanaaSetT
import Derived.Test.YteiiaocohpbanaaSetPa
import Derived.Test.YteiiaocohpbanaaArgsN
namespace Go.Proofs.Yteiiaocohpbanaa
set_option linter.unusedVariables false
set_option linter.unusedSimpArgs false
open Go Go.RowKit Go.Lib Go.Sort Go.Shelf

/-- the set s holds xs, the row v holds ys, apart -/
def PlayI (w : World) (s : Nat) (v : Value) (xs ys : List Int) (W : World) : Prop :=
  w.heap.size ≤ s ∧ RowKit.Below w.heap.size w W ∧ OwnI w.heap.size W v ys ∧ ∃ ob, SetAt w.heap.size W s ob xs ∧ ∀ g, v.ownBlock = some g → g ≠ s ∧ ob ≠ some g
theorem set_base {base base' : Nat} {w : World} {s : Nat} {ob : Option Nat} {xs : List Int} (h : SetAt base w s ob xs) (hb : base' ≤ base) : SetAt base' w s ob xs := by
  obtain ⟨⟨v, a, b, d⟩, e, f⟩ := h
  exact ⟨⟨v, a, b, row_base' d hb⟩, e, f⟩
theorem set_lt {base : Nat} {w : World} {s : Nat} {ob : Option Nat} {xs : List Int} (h : SetAt base w s ob xs) : s < w.heap.size := by
  obtain ⟨⟨v, a, _⟩, _⟩ := h
  exact blk_lt a
theorem play_start {w w1 w2 : World} {s : Nat} {ob : Option Nat} (b1 : RowKit.Below w.heap.size w w1) (h : SetAt w1.heap.size w2 s ob []) (hs : w1.heap.size ≤ s) (b2 : RowKit.Below w1.heap.size w1 w2) : PlayI w s (.slice none 0 0) [] [] w2 :=
  ⟨Nat.le_trans b1.size hs, b1.trans (b2.mono b1.size), own_nil _ _, ob, set_base h b1.size, fun g hg => by cases hg⟩
theorem play_row {w W W' : World} {s : Nat} {v v' : Value} {xs ys zs : List Int} (h : PlayI w s v xs ys W) (hb : RowKit.Below W.heap.size W W') (hv : OwnI w.heap.size W' v' zs) (ht : Tie W v v') : PlayI w s v' xs zs W' := by
  obtain ⟨h1, h2, h3, ob, h4, h5⟩ := h
  refine ⟨h1, h2.trans (hb.mono h2.size), hv, ob, set_below h4 hb, fun g hg => ?_⟩
  by_cases c : g < W.heap.size
  · exact h5 g (ht g hg c)
  · have := set_lt h4
    exact ⟨by omega, fun e => by have := (set_blocks h4 g e).2; omega⟩
theorem play_below {w W W' : World} {s : Nat} {v : Value} {xs ys : List Int} (h : PlayI w s v xs ys W) (hb : RowKit.Below W.heap.size W W') : PlayI w s v xs ys W' :=
  play_row h hb (own_kept h.2.2.1 fun g hg => hb.block g (h.2.2.1.lt g hg).2) (tie_same rfl)
theorem play_set {w W W' : World} {s : Nat} {ob ob' : Option Nat} {v : Value} {xs ys zs : List Int} (h1 : w.heap.size ≤ s) (h2 : RowKit.Below w.heap.size w W) (h3 : OwnI w.heap.size W v ys) (h4 : SetAt w.heap.size W s ob xs) (h5 : ∀ g, v.ownBlock = some g → g ≠ s ∧ ob ≠ some g)
    (h6 : SetAt w.heap.size W' s ob' zs) (h7 : ∀ k, ob' = some k → k < W.heap.size → ob = some k) (h8 : Fr (fun k => k = s ∨ ob = some k) W W') : PlayI w s v zs ys W' := by
  refine ⟨h1, h2.trans (h8.below h2.size fun k _ e => ?_), own_kept h3 fun g hg => h8.block g (h3.lt g hg).2 fun e => ?_, ob', h6, fun g hg => ⟨(h5 g hg).1, fun e => (h5 g hg).2 (h7 g e (h3.lt g hg).2)⟩⟩
  · rcases e with rfl | e
    · exact h1
    · exact (set_blocks h4 k e).1
  · rcases e with e | e
    · exact (h5 g hg).1 e
    · exact (h5 g hg).2 e
theorem play_add {w W : World} {s : Nat} {v : Value} {xs ys : List Int} (h : PlayI w s v xs ys W) {C : Option Addr} {ls : List Int} (hr : ReadsI w C ls) (c : Nat) (hl : xs.length + ls.length ≤ 1000000) :
    Calls Try.prog 11 #[.pointer (some ⟨s, 0, none⟩), .slice C ls.length c] W fun e W' => e = .returned (.int .i64 (((insAll xs ls).length : Int) - (xs.length : Int))) ∧ PlayI w s v (insAll xs ls) ys W' := by
  obtain ⟨h1, h2, h3, ob, h4, h5⟩ := h
  refine (set_add h4 h2.size C ls c hl (rd10 hr h2 s ob h1 fun k hk => (set_blocks h4 k hk).1)).mono ?_
  rintro e W' ⟨rfl, ob', h6, h7, h8⟩
  have := insAll_len xs ls
  exact ⟨by rw [Int.ofNat_sub this.2], play_set h1 h2 h3 h4 h5 h6 h7 h8⟩
theorem play_rem {w W : World} {s : Nat} {v : Value} {xs ys : List Int} (h : PlayI w s v xs ys W) {C : Option Addr} {ls : List Int} (hr : ReadsI w C ls) (c : Nat) (hl : xs.length ≤ 1000000) (hl2 : ls.length ≤ 1000000) :
    Calls Try.prog 9 #[.pointer (some ⟨s, 0, none⟩), .slice C ls.length c] W fun e W' => e = .returned (.int .i64 ((xs.length : Int) - ((delAll xs ls).length : Int))) ∧ PlayI w s v (delAll xs ls) ys W' := by
  obtain ⟨h1, h2, h3, ob, h4, h5⟩ := h
  refine (set_rem h4 h2.size C ls c hl hl2 (rd10 hr h2 s ob h1 fun k hk => (set_blocks h4 k hk).1)).mono ?_
  rintro e W' ⟨rfl, ob', h6, h7, h8⟩
  have := delAll_len xs ls
  exact ⟨by rw [Int.ofNat_sub this], play_set h1 h2 h3 h4 h5 h6 h7 h8⟩
theorem play_up {w W : World} {s : Nat} {v : Value} {xs ys : List Int} (h : PlayI w s v xs ys W) : xs.Pairwise (· < ·) := by
  obtain ⟨h1, h2, h3, ob, h4, h5⟩ := h
  exact h4.2.2
theorem play_all {w W : World} {s : Nat} {v : Value} {xs ys : List Int} (h : PlayI w s v xs ys W) (hl : xs.length ≤ 1000000) : Calls Try.prog 13 #[.pointer (some ⟨s, 0, none⟩)] W (AllP xs W) := by
  obtain ⟨h1, h2, h3, ob, h4, h5⟩ := h
  exact set_all h4 hl
theorem play_list {w W : World} {s : Nat} {v : Value} {xs ys : List Int} (h : PlayI w s v xs ys W) (hl : xs.length ≤ 1000000) : Calls Try.prog 15 #[.pointer (some ⟨s, 0, none⟩)] W (ListP xs W) := by
  obtain ⟨h1, h2, h3, ob, h4, h5⟩ := h
  exact set_list h4 hl
theorem play_len {w W : World} {s : Nat} {v : Value} {xs ys : List Int} (h : PlayI w s v xs ys W) : Calls Try.prog 16 #[.pointer (some ⟨s, 0, none⟩)] W fun e w' => e = .returned (.int .i64 xs.length) ∧ w' = W := by
  obtain ⟨h1, h2, h3, ob, h4, h5⟩ := h
  exact set_len h4
theorem play_has {w W : World} {s : Nat} {v : Value} {xs ys : List Int} (h : PlayI w s v xs ys W) (hl : xs.length ≤ 1000000) (x : Int) : Calls Try.prog 17 #[.pointer (some ⟨s, 0, none⟩), .int .i64 x] W fun e w' => e = .returned (.bool (xs.contains x)) ∧ ∃ q, w' = W.drewN q := by
  obtain ⟨h1, h2, h3, ob, h4, h5⟩ := h
  exact set_has h4 hl x
theorem drewN_below (w : World) (q : Nat) : RowKit.Below w.heap.size w (w.drewN q) := ⟨rfl, rfl, rfl, Nat.le_refl _, fun _ _ => rfl⟩
end Go.Proofs.Yteiiaocohpbanaa
