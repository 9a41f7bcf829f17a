/- Layer 2: BookPlays: what is given, great. -/
import Derived.Test.YtfdaeajafmcjcaaBokE
import Derived.Test.YtfdaeajafmcjcaaDecB
namespace Go.Proofs.Ytfdaeajafmcjcaa
set_option linter.unusedVariables false
set_option linter.unusedSimpArgs false
open Go Go.RowKit Go.Maps Go.Sort Go.Shelf Go.Lib

/-- the acts, as they lie -/
def ActB (w : World) (A : Option Addr) (l : List zbkT) : Prop := (∀ x ∈ l, zbkG x) ∧ (0 < l.length → ∃ g o, A = some ⟨g, o, none⟩ ∧ g < w.heap.size ∧ ∀ i (h : i < l.length) j u, (zbkL l[i])[j]? = some u → w.cell? ⟨g, o + i * 3 + j, none⟩ = some u)
theorem actB_at {w : World} {A : Option Addr} {l : List zbkT} (h : ActB w A l) (h0 : 0 < l.length) : ∃ (g o : Nat), A = some ⟨g, o, none⟩ ∧ ∀ W, RowKit.Below w.heap.size w W → ∀ k (hk : k < l.length), W.cell? ⟨g, o + k * 3, none⟩ = some (.int .i64 l[k].1) ∧ W.cell? ⟨g, o + k * 3 + 1, none⟩ = some (.string l[k].2.1) ∧ W.cell? ⟨g, o + k * 3 + 2, none⟩ = some (.int .i64 l[k].2.2) := by
  obtain ⟨g, o, hA, hg, hc⟩ := h.2 h0
  refine ⟨g, o, hA, fun W hb k hk => ?_⟩
  have hblk : W.heap[g]? = w.heap[g]? := hb.block g hg
  have h1 := hc k hk 0 _ rfl
  have h2 := hc k hk 1 _ rfl
  have h3 := hc k hk 2 _ rfl
  exact ⟨(World.cell?_of_block (w := w) (w' := W) (a := ⟨g, o + k * 3, none⟩) hblk).trans h1, (World.cell?_of_block (w := w) (w' := W) (a := ⟨g, o + k * 3 + 1, none⟩) hblk).trans h2, (World.cell?_of_block (w := w) (w' := W) (a := ⟨g, o + k * 3 + 2, none⟩) hblk).trans h3⟩
/-- more than is looked at -/
def greatB (l : List zbkT) : Bool := decide (40 < l.length) || l.any fun x => decide (30 < x.2.1.size)
set_option maxRecDepth 100000 in
set_option maxHeartbeats 8000000 in
theorem great02 {w : World} {A : Option Addr} {l : List zbkT} {c : Nat} (h : ActB w A l) (W : World) (hW : RowKit.Below w.heap.size w W) :
    Calls Try.prog 8 #[.slice A l.length c] W fun e w' => e = .returned (.bool (greatB l)) ∧ w' = W := by
  by_cases h40 : l.length ≤ 40
  · have e0 : greatB l = l.any fun x => decide (30 < x.2.1.size) := by unfold greatB; rw [decide_eq_false (by omega)]; rfl
    have q0 : decide ((40 : Int) < (l.length : Int)) = false := by simp; omega
    have p0 : ¬ ((40 : Int) < (l.length : Int)) := by omega
    have HQ := Lib.hid (And.intro h e0)
    clear h e0
    go_enter Try.func8, Try.ntmps8
    go_wp2_with fail
    go_loopw [3] (fun i wr => ∃ j : Nat, i = .int .i64 j ∧ j ≤ l.length ∧ wr = W ∧ ∀ q (hq : q < l.length), q < j → l[q].2.1.size ≤ 30) (fun i _ => l.length - (RowKit.intOf i).toNat)
    case atStart => exact ⟨0, rfl, Nat.zero_le _, rfl, fun q _ hq => by omega⟩
    case round =>
      obtain ⟨j, rfl, hj, rfl, hno⟩ := hrel
      by_cases hlt : j < l.length
      · obtain ⟨g, o, rfl, hat⟩ := actB_at HQ.out.1 (by omega)
        obtain ⟨c1, c2, c3⟩ := hat _ hW j hlt
        obtain ⟨s, hs⟩ : ∃ s, l[j].2.1 = s := ⟨_, rfl⟩
        rw [hs] at c2
        have HS := Lib.hid hs
        have HN := Lib.hid hno
        clear hat c1 c3 hs hno
        by_cases h20 : s.size ≤ 30
        · have q2 : decide ((30 : Int) < (s.size : Int)) = false := by simp; omega
          have p2 : ¬ ((30 : Int) < (s.size : Int)) := by omega
          go_wp2_with fail
          go_roundw
          case rel =>
            refine ⟨j + 1, by go_num, by omega, trivial, fun q hq hq2 => ?_⟩
            by_cases e : q = j
            · subst e; rw [HS.out]; exact h20
            · exact HN.out q hq (by omega)
          case measure => simp [RowKit.intOf]; omega
        · have p2 : (30 : Int) < (s.size : Int) := by omega
          go_wp2_with fail
          go_ret
          refine ⟨?_, rfl⟩
          have e0 : greatB l = true := HQ.out.2.trans (List.any_eq_true.2 ⟨l[j], List.getElem_mem hlt, by rw [HS.out]; simpa using h20⟩)
          rw [e0]
          rfl
      · obtain rfl : j = l.length := by omega
        have p1 : ¬ ((l.length : Int) < (l.length : Int)) := by omega
        have HN := Lib.hid hno
        clear hno
        go_wp2_with fail
        go_ret
        refine ⟨?_, rfl⟩
        have e0 : greatB l = false := HQ.out.2.trans (List.any_eq_false.2 fun x hx => by
          obtain ⟨q, hq, rfl⟩ := List.mem_iff_getElem.1 hx
          have := HN.out q hq hq
          simp; omega)
        rw [e0]
        rfl
  · have e0 : greatB l = true := by unfold greatB; rw [decide_eq_true (by omega)]; rfl
    have p0 : (40 : Int) < (l.length : Int) := by omega
    rw [e0]
    clear h
    go_enter Try.func8, Try.ntmps8
    go_wp2_with fail
    go_ret
    exact ⟨rfl, rfl⟩
end Go.Proofs.Ytfdaeajafmcjcaa
