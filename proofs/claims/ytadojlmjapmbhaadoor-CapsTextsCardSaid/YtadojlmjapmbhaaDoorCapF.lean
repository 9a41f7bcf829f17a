/- Layer 12: awake; the walks of CapsApply, CapsTwo. -/
import Derived.Test.YtadojlmjapmbhaaDoorCapE
namespace Go.Proofs.YtadojlmjapmbhaaDoor
set_option linter.unusedVariables false
set_option linter.unusedSimpArgs false
open Go.RowKit Go.Shelf

theorem IV_of (n : Int) (h : (Lit.int .i64 n).wf = true) : IV (BitVec.ofInt 64 n) = n := by
  simp only [Lit.wf, IntKind.has, Bool.and_eq_true, decide_eq_true_eq] at h
  have h1 : -9223372036854775808 ≤ n := h.1
  have h2 : n ≤ 9223372036854775807 := h.2
  unfold IV
  rw [BitVec.toInt_ofInt]
  simp only [Int.bmod]
  omega
theorem bjc {B : Nat} {w w1 w2 : World} (h : Below B w w1) (hB : B ≤ w1.heap.size) (k : Below w1.heap.size w1 w2) : Below B w w2 := h.trans (k.mono hB)
def awakeS : ByteArray := ⟨#[97, 119, 97, 121, 45, 110, 111, 116, 105, 102, 121, 32, 45, 101, 99, 104, 111, 45, 109, 101, 115, 115, 97, 103, 101]⟩
theorem awake12 (w : World) (hK : Known w) : Calls Tryd.prog 5 #[] w fun e w' => e = .returned (.bool true) ∧ Below w.heap.size w w' := by
  have hA := apply_any 2#64 awakeS w (by decide) hK
  rw [show capV 2#64 awakeS.data.toList = (1#64, true) by decide +kernel, show IV 2#64 = 2 by decide +kernel] at hA
  simp only at hA
  rw [show IV 1#64 = 1 by decide +kernel] at hA
  go_enter Tryd.func5, Tryd.ntmps5
  go_wp2_with (go_at_call 8; refine hA.mono ?_; rintro e w1 ⟨rfl, q1⟩; have Q1 := Lib.hid q1; clear q1)
  go_ret
  exact ⟨rfl, Q1.out⟩



end Go.Proofs.YtadojlmjapmbhaaDoor
