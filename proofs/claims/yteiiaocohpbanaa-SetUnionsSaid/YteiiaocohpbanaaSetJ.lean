/- Layer 10: Of: a set of what a slice holds, whosever it is. -/
import Derived.Test.YteiiaocohpbanaaSetI
namespace Go.Proofs.Yteiiaocohpbanaa
set_option linter.unusedVariables false
set_option linter.unusedSimpArgs false
open Go Go.RowKit Go.Lib Go.Sort Go.Shelf

/-- what a slice reads -/
def ReadsI (w : World) (A : Option Addr) (xs : List Int) : Prop := 0 < xs.length → ∃ g o, A = some ⟨g, o, none⟩ ∧ g < w.heap.size ∧ ∀ j (h : j < xs.length), w.cell? ⟨g, o + j, none⟩ = some (.int .i64 xs[j])
theorem ReadsI.below {w W : World} {A : Option Addr} {xs : List Int} (h : ReadsI w A xs) {n : Nat} (hb : Below n w W) (hn : w.heap.size ≤ n := by exact Nat.le_refl _) : ReadsI W A xs := fun h0 => by
  obtain ⟨g, o, h1, h2, h3⟩ := h h0
  exact ⟨g, o, h1, Nat.lt_of_lt_of_le h2 hb.size, fun j hj => (World.cell?_of_block (w := w) (w' := W) (a := ⟨g, o + j, none⟩) (hb.block g (Nat.lt_of_lt_of_le h2 hn))).trans (h3 j hj)⟩
def anyY (B : Nat) (A : Option Addr) (n : Nat) : Nat → Prop := fun b => b = B ∨ (0 < n ∧ ∃ p, A = some p ∧ p.block = b)
set_option maxRecDepth 100000 in
set_option maxHeartbeats 4000000 in
theorem values_tells_any (n : Nat) (hn : 2 ≤ n) (B : Nat) (A : Option Addr) (c : Nat) (xs : List Int) (w : World) (hxs : xs.length ≤ 1000000) (hb : w.heap[B]? = some (.cells #[.slice A xs.length c] 26 (0, 0))) (hr : ReadsI w A xs) :
    SeqT Fence.wide n Try.prog 33 #[.pointer (some ⟨B, 0, none⟩)] encI (fun _ => False) (anyY B A xs.length) xs w := fun l J Jx V hV hJ hJx hY h0 => by
  have hbV := (hV.block B (blk_lt hb)).trans hb
  have c0 : V.cell? ⟨B, 0, none⟩ = some (.slice A xs.length c) := (blk_cell hbV 0).trans rfl
  have hrV : ReadsI V A xs := hr.below hV
  have HR := Lib.hid hrV
  have HB := Lib.hid hbV
  have HY := Lib.hid hY
  have HJ := Lib.hid hJ
  have HJx := Lib.hid hJx
  clear hb hr hV hrV hbV hY hJ hJx
  refine callsIn_of_wp Try.func33 rfl trivial ?_ rfl
  simp only [Try.ntmps33, List.size_toArray, List.length_cons, List.length_nil, Nat.reduceAdd, Nat.reduceSub, Array.replicate_succ, Array.replicate_zero, List.push_toArray, List.append_toArray, List.nil_append, List.cons_append]
  gi_wp2
  gi_loopw [7] (fun c1 wr => ∃ k : Nat, c1 = .int .i64 k ∧ k ≤ xs.length ∧ Hid (SameX (anyY B A xs.length) V wr) ∧ Hid (J (xs.take k) wr)) (fun c1 _ => xs.length - (intOf c1).toNat)
  case atStart => exact ⟨0, rfl, Nat.zero_le _, fun _ _ => rfl, h0⟩
  case round =>
    obtain ⟨k, rfl, hk, HS, HJk⟩ := hrel
    by_cases hlt : k < xs.length
    · obtain ⟨g, o, rfl, hg, hcell⟩ := HR.out (by omega)
      obtain ⟨x, hx⟩ : ∃ x, xs[k] = x := ⟨_, rfl⟩
      have e0 : wr.cell? ⟨g, o + k, none⟩ = some (.int .i64 x) := by
        rw [HS.out.cell (b := g) (o := o + k) (.inr ⟨by omega, _, rfl, rfl⟩), hcell k hlt, hx]
      have hsp : xs.take k ++ x :: xs.drop (k + 1) = xs := by rw [← hx, ← List.drop_eq_getElem_cons hlt]; exact List.take_append_drop k xs
      have htk : xs.take (k + 1) = xs.take k ++ [x] := by rw [List.take_succ_eq_append_getElem hlt, hx]
      have HT := Lib.hid htk
      have HSP := Lib.hid hsp
      have hyy := HY.out (xs.take k) x (xs.drop (k + 1)) wr hsp HJk.out
      obtain ⟨fn, tmps, assign, body, hy, hR⟩ := hyy
      dsimp only [encI] at hy
      clear hx htk hsp hg hcell
      gi_wp2_with fail
      refine ⟨fun _ => by omega, hR.mono ?_⟩
      rintro e W3 (⟨rfl, hJ3, hK3⟩ | ⟨rfl, hJx3⟩)
      · have hS3 : Hid (SameX (anyY B (some ⟨g, o, none⟩) xs.length) V W3) := HS.out.trans hK3
        rw [← HT.out] at hJ3
        have HJ3 := Lib.hid hJ3
        clear hJ3 hK3 hR hy
        gi_wp2_with fail
        go_roundw
        case rel => exact ⟨k + 1, by go_num, by omega, hS3, HJ3⟩
        case measure => simp [intOf]; omega
      · clear hR hy
        gi_wp2_with fail
        refine bodyPost_ret (results_none rfl _ _ _) rfl ?_
        exact ⟨⟨_, rfl⟩, .inr ⟨_, xs.drop (k + 1), by simpa using HSP.out, hJx3⟩⟩
    · obtain rfl : k = xs.length := by omega
      gi_wp2_with fail
      go_end0
      have hj := HJk.out
      rw [List.take_length] at hj
      exact ⟨⟨_, rfl⟩, .inl hj⟩


theorem tells_any {w : World} {B : Nat} {A : Option Addr} {xs : List Int} {c : Nat} (hl : xs.length ≤ 1000000) (hb : w.heap[B]? = some (.cells #[.slice A xs.length c] 26 (0, 0))) (hr : ReadsI w A xs) :
    Tells w (.func (.func 33) #[] #[.pointer (some ⟨B, 0, none⟩)]) xs := by
  refine ⟨_, _, anyY B A xs.length, rfl, fun n hn => values_tells_any n (by omega) B A c xs w hl hb hr, fun b hb2 => ?_, enters_of Try.func33 (by kernel_rfl) rfl⟩
  rcases hb2 with rfl | ⟨h0, p, h1, rfl⟩
  · exact blk_lt hb
  · obtain ⟨g, o, h2, h3, _⟩ := hr h0
    rw [h2] at h1; cases h1; exact h3
/-- numbers, each once, rising -/
def normI (xs : List Int) : List Int := compact (xs.mergeSort fun x y => decide (x ≤ y))
/-- a new set -/
def OfP (zs : List Int) (w : World) (e : Ending) (w' : World) : Prop := (∃ s ob, e = .returned (.pointer (some ⟨s, 0, none⟩)) ∧ SetAt w.heap.size w' s ob zs ∧ w.heap.size ≤ s) ∧ Below w.heap.size w w'
set_option maxHeartbeats 4000000 in
theorem set_of {w : World} (A : Option Addr) (xs : List Int) (c : Nat) (hl : xs.length ≤ 1000000) (hr : ReadsI w A xs) (hup : (normI xs).Pairwise (· < ·)) :
    Calls Try.prog 7 #[.slice A xs.length c] w (OfP (normI xs) w) := by
  have HV := Lib.hid (values_calls A xs.length c w)
  have HR := Lib.hid hr
  have HU := Lib.hid hup
  clear hr hup
  go_enter Try.func7, Try.ntmps7
  go_wp2_with fail
  refine HV.out.mono ?_
  rintro e w1 ⟨rfl, h1, h2⟩
  obtain ⟨W2, hW2⟩ : ∃ W2, w1.alloc (Obj.cells #[Value.func (.func 33) #[] #[.pointer (some ⟨w.heap.size, 0, none⟩)]] 34) = W2 := ⟨_, rfl⟩
  have hb2 : Below w1.heap.size w1 W2 := by rw [← hW2]; exact (Below.refl _ _).alloc (Nat.le_refl _) _
  have hT : Tells W2 (.func (.func 33) #[] #[.pointer (some ⟨w.heap.size, 0, none⟩)]) xs := tells_below (tells_any hl h1 (HR.out.below h2)) hb2
  have hcc : W2.cell? ⟨w1.heap.size, 0, none⟩ = some (Value.func (.func 33) #[] #[.pointer (some ⟨w.heap.size, 0, none⟩)]) := by rw [← hW2]; exact blk_cell (heap_alloc_new w1 _) 0
  have hz2 : w1.heap.size < W2.heap.size := by rw [← hW2, World.size_alloc]; omega
  have hz1 := h2.size
  have HG := Lib.hid (gather_of (w := W2) (some ⟨w1.heap.size, 0, none⟩) [xs] 1 (by simp) (by simpa using hl) (fun _ => ⟨_, _, rfl, hz2, fun j hj => by
    obtain rfl : j = 0 := by simp at hj; omega
    exact ⟨_, hcc, hT⟩⟩) _ rfl)
  have hB : Below w.heap.size w W2 := h2.trans (hb2.mono hz1)
  have H2 := Lib.hid hB
  have HW := Lib.hid hW2
  clear hb2 hT hcc h1 h2 hB hW2
  go_wp2_with fail
  rw [HW.out]
  refine HG.out.mono ?_
  rintro e w3 ⟨⟨v', rfl, h3⟩, h4⟩
  obtain ⟨A', c', rfl⟩ := row_slice h3
  have H3 := Lib.hid (And.intro h3 h4)
  clear h3 h4
  go_wp2_with fail
  go_ret
  obtain ⟨h3, h4⟩ := H3.out
  have hB := H2.out
  have hz := hB.size
  have hb3 : Below w3.heap.size w3 (w3.alloc (Obj.cells #[Value.slice A' (compact (List.mergeSort [xs].flatten fun x y => decide (x ≤ y))).length c'] 52)) := (Below.refl _ _).alloc (Nat.le_refl _) _
  have e0 : [xs].flatten = xs := by simp
  rw [e0] at h3 hb3
  refine ⟨⟨w3.heap.size, _, rfl, ⟨⟨_, heap_alloc_new w3 _, rfl, row_base' (own_kept h3 fun g hg => hb3.block g (h3.lt g hg).2) hz⟩, fun e => ?_, HU.out⟩, ?_⟩, hB.trans ((h4.mono hz).trans (hb3.mono (Nat.le_trans hz h4.size)))⟩
  · have := (h3.lt _ e).2; omega
  · have := h4.size; omega
end Go.Proofs.Yteiiaocohpbanaa
