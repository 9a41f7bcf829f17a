/- Layer 10: the document's Has, Remove, Add. -/
import Derived.Test.YteiiaocohpbanaaSetO
namespace Go.Proofs.Yteiiaocohpbanaa
set_option linter.unusedVariables false
set_option linter.unusedSimpArgs false
open Go Go.RowKit Go.Lib Go.Sort Go.Shelf

set_option maxHeartbeats 4000000 in
theorem has10 {w : World} (A : Option Addr) (xs : List Int) (c : Nat) (x : Int) (hl : xs.length ≤ 1000000) (hA : ReadsI w A xs) :
    Calls Try.prog 18 #[.slice A xs.length c, .int .i64 x] w fun e w' => e = .returned (.bool (xs.contains x)) ∧ w' = w := by
  have HA := Lib.hid hA
  obtain ⟨b, hb⟩ : ∃ b, xs.contains x = b := ⟨_, rfl⟩
  rw [hb]
  have HB := Lib.hid hb
  clear hA hb
  go_enter Try.func18, Try.ntmps18
  go_wp2_with fail
  go_loopw [5] (fun i wr => ∃ k : Nat, i = .int .i64 k ∧ k ≤ xs.length ∧ Hid ((xs.take k).contains x = false) ∧ wr = w) (fun i _ => xs.length - (intOf i).toNat)
  case atStart => exact ⟨0, rfl, Nat.zero_le _, rfl, rfl⟩
  case round =>
    obtain ⟨k, rfl, hk, HQ, rfl⟩ := hrel
    by_cases hlt : k < xs.length
    · obtain ⟨g, o, rfl, _, ha⟩ := HA.out (by omega)
      have a1 := ha k hlt
      have htk : xs[k] ≠ x → (xs.take (k + 1)).contains x = false := fun e => by
        have h1 : x ∉ xs.take k := by simpa using HQ.out
        have h2 : x ∉ xs.take (k + 1) := by
          rw [List.take_succ_eq_append_getElem hlt, List.mem_append, List.mem_singleton, not_or]
          exact ⟨h1, fun h => e h.symm⟩
        simpa using h2
      obtain ⟨y, hy⟩ : ∃ y, xs[k] = y := ⟨_, rfl⟩
      have hmem : xs[k] ∈ xs := List.getElem_mem hlt
      rw [hy] at a1 htk hmem
      have p1 : (k : Int) < (xs.length : Int) := by omega
      by_cases e : y = x
      · subst e
        have hbt : b = true := by rw [← HB.out]; simpa using hmem
        clear ha htk hy hmem
        go_wp2_with fail
        go_ret
        exact ⟨by first | rfl | (rw [hbt]; rfl), rfl⟩
      · have he : (y == x) = false := by simpa using e
        have HT := Lib.hid (htk e)
        clear ha htk hy hmem
        go_wp2_with fail
        go_roundw
        case rel => exact ⟨k + 1, by go_num, by omega, HT, by first | rfl | trivial⟩
        case measure => simp [intOf]; omega
    · obtain rfl : k = xs.length := by omega
      have hbt : b = false := by have := HQ.out; rw [List.take_length, HB.out] at this; exact this
      have p1 : ¬ ((xs.length : Int) < (xs.length : Int)) := by omega
      go_wp2_with fail
      go_ret
      exact ⟨by first | rfl | (rw [hbt]; rfl), rfl⟩
/-- a row of the call's own, handed back -/
def RowP (base : Nat) (zs : List Int) (w : World) (e : Ending) (w' : World) : Prop := (∃ v', e = .returned v' ∧ OwnI base w' v' zs) ∧ Below w.heap.size w w'
set_option maxRecDepth 100000 in
set_option maxHeartbeats 4000000 in
theorem rem10 {w : World} (A : Option Addr) (xs : List Int) (c : Nat) (x : Int) (hl : xs.length ≤ 1000000) (hA : ReadsI w A xs) :
    Calls Try.prog 8 #[.slice A xs.length c, .int .i64 x] w (RowP w.heap.size (xs.filter fun y => decide (y ≠ x)) w) := by
  obtain ⟨i0, hi, hz0, hz1, hz2⟩ := info_parts Try.infoI
  have HA := Lib.hid hA
  clear hA
  go_enter Try.func8, Try.ntmps8
  go_wp2_with fail
  have h00 : OwnI w.heap.size w (.slice none 0 0) [] := own_nil _ _
  go_loopw [5, 6] (fun v i wr => ∃ k : Nat, i = .int .i64 k ∧ k ≤ xs.length ∧ Hid (OwnI w.heap.size wr v ((xs.take k).filter fun y => decide (y ≠ x)) ∧ Below w.heap.size w wr)) (fun _ i _ => xs.length - (intOf i).toNat)
  case atStart => exact ⟨0, rfl, Nat.zero_le _, h00, Below.refl _ _⟩
  case round =>
    clear h00
    obtain ⟨k, rfl, hk, HQ⟩ := hrel
    by_cases hlt : k < xs.length
    · obtain ⟨g, o, rfl, hg, ha⟩ := HA.out (by omega)
      obtain ⟨q1, q2⟩ := HQ.out
      have a1 : wr.cell? ⟨g, o + k, none⟩ = some (.int .i64 xs[k]) := (World.cell?_of_block (w := w) (w' := wr) (a := ⟨g, o + k, none⟩) (q2.block g hg)).trans (ha k hlt)
      have htk : (xs.take (k + 1)).filter (fun y => decide (y ≠ x)) = (xs.take k).filter (fun y => decide (y ≠ x)) ++ if xs[k] = x then [] else [xs[k]] := by
        rw [List.take_succ_eq_append_getElem hlt, List.filter_append]
        by_cases e : xs[k] = x <;> simp [e]
      obtain ⟨y, hy⟩ : ∃ y, xs[k] = y := ⟨_, rfl⟩
      have hfl : ((xs.take k).filter fun y => decide (y ≠ x)).length ≤ 1000000 := Nat.le_trans (List.length_filter_le _ _) (by rw [List.length_take]; omega)
      obtain ⟨zs, hzs⟩ : ∃ zs, (xs.take k).filter (fun y => decide (y ≠ x)) = zs := ⟨_, rfl⟩
      rw [hy] at a1 htk
      rw [hzs] at htk hfl q1
      have p1 : (k : Int) < (xs.length : Int) := by omega
      have hz := q2.size
      have hor : wr.ownsRow w.heap.size 3 1 u5 zs.length (zs.map (Value.int .i64)) := q1
      have HO := Lib.hid hor
      have H := Lib.hid (And.intro q1 (And.intro q2 htk))
      clear ha hy hzs q1 q2 htk hor
      by_cases e : y = x
      · subst e
        go_wp2_with fail
        obtain ⟨q1, q2, htk⟩ := H.out
        rw [if_pos rfl, List.append_nil] at htk
        have HN : Hid (OwnI w.heap.size wr u5 ((xs.take (k + 1)).filter fun z => decide (z ≠ y)) ∧ Below w.heap.size w wr) := ⟨by rw [htk]; exact q1, q2⟩
        clear q1 q2 htk
        go_roundw
        case rel => exact ⟨k + 1, by go_num, by omega, HN⟩
        case measure => simp [intOf]; omega
      · have he : (y != x) = true := by simpa using e
        go_wp2_with (at_builtin; refine Hid.out ?_)
        refine Lib.hid ?_
        refine wpList_app_fr rfl _ _ 26 rfl w.heap.size 3 i0 _ 1 8 Try.underlying26 hi hz0 hz1 hz2 rfl (by decide) u5 zs.length (zs.map (Value.int .i64)) rfl HO.out #[.int .i64 y] _ rfl rfl rfl (by intro u hu; simp at hu; subst hu; rfl) (by omega) (by decide) (by omega) ?_
        intro v1 W2 hown1 hfr1
        obtain ⟨q1, q2, htk⟩ := H.out
        rw [if_neg e] at htk
        have HN : Hid (OwnI w.heap.size W2 v1 ((xs.take (k + 1)).filter fun z => decide (z ≠ x)) ∧ Below w.heap.size w W2) := ⟨by rw [htk]; unfold OwnI; rw [List.length_append, List.map_append]; exact hown1, q2.trans (hfr1.below q2.size fun j _ ej => (q1.lt j ej).1)⟩
        clear q1 q2 htk hown1 hfr1
        go_wp2_with fail
        go_roundw
        case rel => exact ⟨k + 1, by go_num, by omega, HN⟩
        case measure => simp [intOf]; omega
    · obtain rfl : k = xs.length := by omega
      have p1 : ¬ ((xs.length : Int) < (xs.length : Int)) := by omega
      go_wp2_with fail
      go_ret
      obtain ⟨q1, q2⟩ := HQ.out
      rw [List.take_length] at q1
      simp only [ne_eq, decide_not] at q1
      exact ⟨⟨u5, rfl, q1⟩, q2⟩
end Go.Proofs.Yteiiaocohpbanaa
