/- Rows of texts of the call's own; slices.Values at texts. -/
import Derived.Test.YtmoioihclnpcbaaDoorTellsF
import Derived.Test.YtmoioihclnpcbaaDoorAppU
import Derived.Test.YtmoioihclnpcbaaDoorScope
import Derived.Lib.Hide
import Derived.Test.YtmoioihclnpcbaaDoorChecked
import Derived.Sort.LoopGhostIn
import Derived.Stop.RegionWithIn
import Derived.LoopIn
import Derived.Deep.LoopGhost
namespace Go.Proofs.YtmoioihclnpcbaaDoor
set_option linter.unusedVariables false
set_option linter.unusedSimpArgs false
open Go Go.RowKit Go.Lib
attribute [local go_sem] Oper.semAt_some

/-- a text in a cell, as it is told -/
def encT (x : List UInt8) : Value := .string (bs x)
def encL (x : List UInt8) : Array Value := #[.string (bs x)]
def OwnT (base : Nat) (W : World) (v : Value) (xs : List (List UInt8)) : Prop := W.ownsRow base 9 1 v xs.length (xs.map encT)
theorem Tryd.infoT : (Tryd.prog.info? 9).map (fun i => (i.zero, i.size, i.bytes)) = some (some (.string ByteArray.empty), 1, 16) := by kernel_rfl
theorem ownT_kept {base : Nat} {w W : World} {v : Value} {xs : List (List UInt8)} (h : OwnT base w v xs) (hs : ∀ g, v.ownBlock = some g → W.heap[g]? = w.heap[g]?) : OwnT base W v xs := row_same h hs
theorem ownT_nil (base : Nat) (w : World) : OwnT base w (.slice none 0 0) [] := World.ownsRow_nil _ _ _ _
theorem ownT_base {W : World} {base base' : Nat} {v : Value} {xs : List (List UInt8)} (h : OwnT base W v xs) (hb : base' ≤ base) : OwnT base' W v xs := by
  obtain ⟨h1, h2⟩ := h
  refine ⟨h1, ?_⟩
  rcases h2 with h2 | ⟨g, cap, cur, h3, h4, h5⟩
  · exact .inl h2
  · exact .inr ⟨g, cap, cur, h3, by omega, h5⟩
theorem ownT_snoc {base : Nat} {w : World} {v : Value} {xs : List (List UInt8)} {x : List UInt8} (h : w.ownsRow base 9 1 v (xs.length + 1) (xs.map encT ++ [encT x])) : OwnT base w v (xs ++ [x]) := by
  unfold OwnT; rw [List.length_append, List.map_append]; exact h
/-- texts as they are read -/
def ReadsT (w : World) (A : Option Addr) (xs : List (List UInt8)) : Prop := 0 < xs.length → ∃ g o, A = some ⟨g, o, none⟩ ∧ g < w.heap.size ∧ ∀ j (h : j < xs.length), w.cell? ⟨g, o + j, none⟩ = some (.string (bs xs[j]))
theorem reads_ownT {base : Nat} {w : World} {A : Option Addr} {n c : Nat} {xs : List (List UInt8)} (h : OwnT base w (.slice A n c) xs) : ReadsT w A xs := fun h0 => by
  have h' := h
  rcases h.2 with ⟨h1, h2⟩ | ⟨g, cap, cur, h1, h3, h4, h5, _, h6, h7⟩
  · omega
  · injection h1 with q1 q2 q3
    subst q1
    refine ⟨g, 0, rfl, blk_lt h4, fun j hj => ?_⟩
    have := h'.cells (g := g) rfl j (encT xs[j]) (by simp [hj])
    have hadd : (⟨g, 0, none⟩ : Addr).add j = ⟨g, 0 + j, none⟩ := by
      unfold Addr.add
      split
      · simp_all
      · rfl
    rw [hadd] at this
    exact this
theorem ReadsT.below {w W : World} {A : Option Addr} {xs : List (List UInt8)} (h : ReadsT w A xs) {n : Nat} (hb : Below n w W) (hn : w.heap.size ≤ n := by exact Nat.le_refl _) : ReadsT W A xs := fun h0 => by
  obtain ⟨g, o, rfl, hg, h1⟩ := h h0
  exact ⟨g, o, rfl, Nat.lt_of_lt_of_le hg hb.size, fun j hj => (World.cell?_of_block (w := w) (w' := W) (a := ⟨g, o + j, none⟩) (hb.block g (by omega))).trans (h1 j hj)⟩
/-- the blocks of a tale -/
def rowYT (B : Nat) (v : Value) : Nat → Prop := fun b => b = B ∨ v.ownBlock = some b





end Go.Proofs.YtmoioihclnpcbaaDoor
