/- Layer 5: FrameEnds: words. -/
import Derived.Test.YtaajfbbogihbnaaDoorFrJ
import Derived.Test.YtaajfbbogihbnaaDoorRegZ
namespace Go.Proofs.YtaajfbbogihbnaaDoor
set_option linter.unusedVariables false
set_option linter.unusedSimpArgs false
open Go Go.RowKit Go.Lib

/-- what ends a line, four ways -/
def endsB (r : Nat) : List UInt8 := if r = 0 then [13] else if r = 1 then [13, 10] else if r = 2 then [10, 13] else [10, 10, 10]
theorem endsB_len (r : Nat) : (endsB r).length ≤ 3 := by unfold endsB; split; · decide
                                                         split; · decide
                                                         split; · decide
                                                         decide
theorem feed_nl {p : List UInt8} (h : ∀ b ∈ p, ¬ isEnd b) : feedM ([], false) (p ++ [10]) = (outM (keepM ([], false) p), ([], false)) := by
  rw [feedM_cut p 10 [] _ good_new h (by decide)]; simp [feedM_nil]
theorem feed_ends {p : List UInt8} (h : ∀ b ∈ p, ¬ isEnd b) (r : Nat) : feedM ([], false) (p ++ endsB r) = (outM (keepM ([], false) p), ([], false)) := by
  unfold endsB
  split
  · rw [feedM_cut p 13 [] _ good_new h (by decide)]; simp [feedM_nil]
  · split
    · rw [feedM_cut p 13 [10] _ good_new h (by decide)]
      have : feedM ([], false) [10] = ([], ([], false)) := by decide
      rw [this]; simp
    · split
      · rw [feedM_cut p 10 [13] _ good_new h (by decide)]
        have : feedM ([], false) [13] = ([], ([], false)) := by decide
        rw [this]; simp
      · rw [feedM_cut p 10 [10, 10] _ good_new h (by decide)]
        have : feedM ([], false) [10, 10] = ([], ([], false)) := by decide
        rw [this]; simp
theorem feed_more {L q : List UInt8} {os os2 : List FSt} (h : feedM ([], false) L = (os, ([], false))) (h2 : feedM ([], false) q = (os2, ([], false))) : feedM ([], false) (L ++ q) = (os ++ os2, ([], false)) := by
  rw [feedM_app, h]; simp only [h2]
/-- two rows of bytes, apart -/
structure EE (base : Nat) (La Lb : List UInt8) (a b : Value) (W : World) : Prop where
  oa : Own8 base W a La
  ob : Own8 base W b Lb
  d : ∀ k, a.ownBlock = some k → b.ownBlock ≠ some k
section
variable {base : Nat} {La Lb : List UInt8} {a b : Value} {W W' : World}
theorem EE.fresh (h : EE base La Lb a b W) (hf : Fr (fun _ => False) W W') : EE base La Lb a b W' where
  oa := own8_kept h.oa fun g hg => hf.block g (own_lt8 h.oa hg).2 fun e => e
  ob := own8_kept h.ob fun g hg => hf.block g (own_lt8 h.ob hg).2 fun e => e
  d := h.d
theorem EE.left (h : EE base La Lb a b W) {a' : Value} {L' : List UInt8} (ho : Own8 base W' a' L') (hf : Fr (fun k => a.ownBlock = some k) W W') (ht : ∀ k, a'.ownBlock = some k → a.ownBlock = some k ∨ W.heap.size ≤ k) : EE base L' Lb a' b W' where
  oa := ho
  ob := own8_kept h.ob fun g hg => hf.block g (own_lt8 h.ob hg).2 fun e => h.d g e hg
  d := fun k hk e => by
    rcases ht k hk with e2 | e2
    · exact h.d k e2 e
    · have := (own_lt8 h.ob e).2; omega
theorem EE.right (h : EE base La Lb a b W) {b' : Value} {L' : List UInt8} (ho : Own8 base W' b' L') (hf : Fr (fun k => b.ownBlock = some k) W W') (ht : ∀ k, b'.ownBlock = some k → b.ownBlock = some k ∨ W.heap.size ≤ k) : EE base La L' a b' W' where
  oa := own8_kept h.oa fun g hg => hf.block g (own_lt8 h.oa hg).2 fun e => h.d g hg e
  ob := ho
  d := fun k hk e => by
    rcases ht k e with e2 | e2
    · exact h.d k hk e2
    · have := (own_lt8 h.oa hk).2; omega
end
/-- two may come up -/
theorem wpAnyH_two {P : Program} {md : Region.Mode} {ops : Array Oper} {Q : Exit → Act → World → Prop} {S : World → Prop} {i j : Nat} {o o2 : Oper} {fuel : Nat} {listed : Array Bool} {a : Act} {w : World} (hr : Region.ready md ops listed = [i, j]) (ho : ops[i]? = some o) (ho2 : ops[j]? = some o2)
    (hw : Region.wanted o (yielded ops a.tmps) = true) (hw2 : Region.wanted o2 (yielded ops a.tmps) = true)
    (h : ∀ K' : Act → World → Prop, Shut (∀ a w, S w → (S w → wpAnyH P md ops Q S fuel (listed.setIfInBounds i true) a w) → K' a w) → Oper.wp P o a w K' Q)
    (h2 : ∀ K' : Act → World → Prop, Shut (∀ a w, S w → (S w → wpAnyH P md ops Q S fuel (listed.setIfInBounds j true) a w) → K' a w) → Oper.wp P o2 a w K' Q) : wpAnyH P md ops Q S (fuel + 1) listed a w :=
  wpAnyH_ready hr (by simp) (AllReadyH.cons ho (fun K hK => by rw [if_pos hw]; exact h K hK) (AllReadyH.cons ho2 (fun K hK => by rw [if_pos hw2]; exact h2 K hK) AllReadyH.nil))
end Go.Proofs.YtaajfbbogihbnaaDoor
