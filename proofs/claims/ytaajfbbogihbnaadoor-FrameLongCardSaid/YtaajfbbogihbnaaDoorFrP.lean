/- Layer 5: FrameLong, whatever numbers. -/
import Derived.Test.YtaajfbbogihbnaaDoorFrO
import Derived.Test.YtaajfbbogihbnaaDoorFrL
namespace Go.Proofs.YtaajfbbogihbnaaDoor
open Go Go.RowKit

theorem u8_nat {a : Int} (h : (Lit.int .u8 a).wf = true) : ∃ n : Nat, a = n ∧ n < 256 := by
  have hr : IntKind.u8.min ≤ a ∧ a ≤ IntKind.u8.max := by simpa [Lit.wf] using h
  have hm : IntKind.u8.min = 0 := by decide
  have hM : IntKind.u8.max = 255 := by decide
  rw [hm, hM] at hr
  exact ⟨a.toNat, by omega, by omega⟩
theorem frameLong_any (a b : Int) (ha : (Lit.int .u8 a).wf = true) (hb : (Lit.int .u8 b).wf = true) (w : World) (hT : Tabs8 w) :
    Calls Tryd.prog 5 #[.int .u8 a, .int .u8 b] w fun e w' => e = .returned (.bool true) ∧ Below w.heap.size w w' := by
  obtain ⟨n, rfl, hn⟩ := u8_nat ha
  obtain ⟨m, rfl, hm⟩ := u8_nat hb
  exact frameLong_walk n m hn hm w hT
end Go.Proofs.YtaajfbbogihbnaaDoor
