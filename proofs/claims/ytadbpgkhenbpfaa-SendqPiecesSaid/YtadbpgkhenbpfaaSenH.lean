/- Layer 8: what Push and Drain make of the bytes. -/
import Derived.Test.YtadbpgkhenbpfaaSenG
import Derived.Test.YtadbpgkhenbpfaaDecS
namespace Go.Proofs.Ytadbpgkhenbpfaa
set_option linter.unusedVariables false
set_option linter.unusedSimpArgs false
open Go Go.RowKit Go.Lib Go.Sort Go.Shelf

theorem push_ws (s : QS) (l : List UInt8) : (pushS s l).ws = if pushB s l then s.ws ++ l ++ [13, 10] else s.ws := by
  unfold pushS pushB
  cases fitQ s l <;> cases roomQ s l <;> rfl
theorem push_most (s : QS) (l : List UInt8) : (pushS s l).most = s.most := by
  unfold pushS; cases fitQ s l <;> cases roomQ s l <;> rfl
theorem push_sent (s : QS) (l : List UInt8) : (pushS s l).sent = s.sent := by
  unfold pushS; cases fitQ s l <;> cases roomQ s l <;> rfl
theorem push_len (s : QS) (l : List UInt8) (h : (s.ws.length : Int) ≤ s.most) : ((pushS s l).ws.length : Int) ≤ s.most := by
  rw [push_ws]
  cases hb : pushB s l with
  | false => exact h
  | true =>
    unfold pushB at hb
    rw [Bool.and_eq_true] at hb
    have := hb.2
    simp only [roomQ, decide_eq_true_eq] at this
    simp; omega
theorem drain_ws (s : QS) (n : Int) : (drainS s n).ws = s.ws.drop (goesQ s n) := by
  unfold drainS
  split
  · next h => rw [h]; rfl
  · rfl
theorem drain_most (s : QS) (n : Int) : (drainS s n).most = s.most := by unfold drainS; split <;> rfl
theorem drain_sent (s : QS) (n : Int) : (drainS s n).sent = s.sent + goesQ s n := by
  unfold drainS
  split
  · next h => rw [h]; simp
  · rfl
theorem drain_over (s : QS) (n : Int) : (drainS s n).over = s.over := by unfold drainS; split <;> rfl
theorem goes_all (s : QS) (n : Int) (h : (s.ws.length : Int) ≤ n) : goesQ s n = s.ws.length := by unfold goesQ; omega
theorem take_all (s : QS) (n : Int) (h : (s.ws.length : Int) ≤ n) : s.ws.take (goesQ s n) = s.ws := by rw [goes_all s n h, List.take_length]
theorem drop_all (s : QS) (n : Int) (h : (s.ws.length : Int) ≤ n) : (drainS s n).ws = [] := by rw [drain_ws, goes_all s n h, List.drop_length]
/-- the acts, as they lie -/
def ActsQ (w : World) (A : Option Addr) (l : List zsqT) : Prop := 0 < l.length → ∃ g o, A = some ⟨g, o, none⟩ ∧ g < w.heap.size ∧ ∀ i (h : i < l.length) j u, (zsqL l[i])[j]? = some u → w.cell? ⟨g, o + i * 3 + j, none⟩ = some u
theorem actsQ_at {w : World} {A : Option Addr} {l : List zsqT} (h : ActsQ w A l) {k : Nat} (hk : k < l.length) :
    ∃ (g o : Nat), A = some ⟨g, o, none⟩ ∧ ∀ W, RowKit.Below w.heap.size w W → W.cell? ⟨g, o + k * 3, none⟩ = some (.int .i64 l[k].1) ∧ W.cell? ⟨g, o + k * 3 + 1, none⟩ = some (.string l[k].2.1) ∧ W.cell? ⟨g, o + k * 3 + 2, none⟩ = some (.int .i64 l[k].2.2) := by
  obtain ⟨g, o, rfl, hg, ha⟩ := h (by omega)
  have hak := ha k hk
  refine ⟨g, o, rfl, fun W hb => ⟨?_, ?_, ?_⟩⟩
  · exact (World.cell?_of_block (w := w) (w' := W) (a := ⟨g, o + k * 3, none⟩) (hb.block g hg)).trans (hak 0 _ rfl)
  · exact (World.cell?_of_block (w := w) (w' := W) (a := ⟨g, o + k * 3 + 1, none⟩) (hb.block g hg)).trans (hak 1 _ rfl)
  · exact (World.cell?_of_block (w := w) (w' := W) (a := ⟨g, o + k * 3 + 2, none⟩) (hb.block g hg)).trans (hak 2 _ rfl)
theorem ba_app (a b : ByteArray) : (a ++ b).data.toList = a.data.toList ++ b.data.toList := by simp
end Go.Proofs.Ytadbpgkhenbpfaa
