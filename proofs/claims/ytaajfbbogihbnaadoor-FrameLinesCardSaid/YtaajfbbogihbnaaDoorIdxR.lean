/- bytes.IndexAny of whatever bytes, among two ASCII ones: the short road. -/
import Derived.Test.YtaajfbbogihbnaaDoorIdx8
import Derived.Test.YtaajfbbogihbnaaDoorShelf
import Derived.Shelf.Spec.DecodeRune
import Derived.Lib.IndexEntry
namespace Go.Proofs.YtaajfbbogihbnaaDoor
set_option linter.unusedVariables false
set_option linter.unusedSimpArgs false
open Go Go.RowKit

/-- the tables that are read, as they are laid; some number in MaxLen -/
def Tabs8 (w : World) : Prop := Lib.Utf8Tabs 1 2 w ∧ ∃ m : Int, w.cell? ⟨0, 0, none⟩ = some (.int .i64 m)
theorem tabs8_lt {w : World} (h : Tabs8 w) : 2 < w.heap.size := by
  have h1 := (h.1.2 0 (by decide)).1
  exact World.block_lt_of_cell? _ _ h1
theorem tabs8_kept {X : Nat → Prop} {w W : World} (h : Tabs8 w) (hf : Fr X w W) (hx : ∀ k, k < 3 → ¬ X k) : Tabs8 W := by
  have hl := tabs8_lt h
  refine ⟨⟨fun c hc => (hf.cell (by show (1 : Nat) < _; omega) (hx 1 (by decide))).trans (h.1.1 c hc), fun i hi => ?_⟩, ?_⟩
  · have := h.1.2 i hi
    exact ⟨(hf.cell (by show (2 : Nat) < _; omega) (hx 2 (by decide))).trans this.1, (hf.cell (by show (2 : Nat) < _; omega) (hx 2 (by decide))).trans this.2⟩
  · obtain ⟨m, hm⟩ := h.2
    exact ⟨m, (hf.cell (by show (0 : Nat) < _; omega) (hx 0 (by decide))).trans hm⟩
theorem decode8 (l : List UInt8) (g o c i : Nat) (h : i < l.length) (w : World) (hc : ∀ j (h : j < l.length), w.cell? ⟨g, o + j, none⟩ = some (enc8 l[j])) (hT : Tabs8 w) {r n : Nat} (hd : Utf8.decode (bs (l.drop i)) 0 = (r, n)) :
    Calls Tryd.prog 29 #[.slice (some ⟨g, o + i, none⟩) (l.length - i) c] w fun e w' => e = .returned (.tuple #[.int .i32 r, .int .i64 n]) ∧ Below w.heap.size w w' := by
  have hs : (bs (l.drop i)).size = l.length - i := by simp
  have hq := Any7.utf8_DecodeRune Tryd.laysNm732 (bs (l.drop i)) g (o + i) c w hT.1 (fun j hj => by
    have h1 := hc (i + j) (by omega)
    have h2 : (bs (l.drop i)).get! j = l[i + j]'(by omega) := by
      rw [get_bang _ _ hj]
      have : (bs (l.drop i))[j]'hj = (l.drop i)[j]'(by simp; omega) := rfl
      rw [this, List.getElem_drop]
    rw [h2, show o + i + j = o + (i + j) by omega, h1]
    rfl)
  have hg : Lib.decodeGo (bs (l.drop i)) = (r, n) := by unfold Lib.decodeGo; rw [if_neg (by omega), hd]
  rw [hg, hs] at hq
  exact hq
theorem ixStr (a b : ByteArray) (m : Int) (w : World) (hm : w.cell? ⟨0, 0, none⟩ = some (.int .i64 m)) (h2 : 2 ≤ b.size) (hb : (b.size : Int) ≤ m) (ha : a.size < 4294967281) :
    (callFunc 30 #[.string a, .string b]).run Tryd.prog w = .ok (.value (.int .i64 (Lib.index a.data.toList b.data.toList))) w := by
  rw [run_callFunc_extern Tryd.func30 (by kernel_rfl) (by kernel_rfl) (by kernel_rfl) (e := Extern.BytealgIndex.index) (by kernel_rfl), Lib.run_indexString a b w 0 m (by kernel_rfl) hm h2 hb ha]
  rfl
end Go.Proofs.YtaajfbbogihbnaaDoor
