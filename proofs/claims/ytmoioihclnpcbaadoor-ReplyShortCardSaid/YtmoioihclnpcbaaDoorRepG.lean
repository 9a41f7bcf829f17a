/- Layer 14: mathematics of the law; awake; great. -/
import Derived.Test.YtmoioihclnpcbaaDoorRepF
namespace Go.Proofs.YtmoioihclnpcbaaDoor
set_option linter.unusedVariables false
set_option linter.unusedSimpArgs false
open Go Go.RowKit

/-- no byte of it ends a line -/
def NB (l : List UInt8) : Prop := ∀ b ∈ l, brkB b = false
theorem nb_app {a b : List UInt8} (h : NB a) (k : NB b) : NB (a ++ b) := fun x hx => (List.mem_append.1 hx).elim (h x) (k x)
theorem nb_cons {x : UInt8} {l : List UInt8} (h : brkB x = false) (k : NB l) : NB (x :: l) := fun y hy => by
  rcases List.mem_cons.1 hy with rfl | hy
  · exact h
  · exact k y hy
theorem nb_nil : NB [] := fun _ h => by cases h
theorem nb_clean (l : List UInt8) : NB (cleanL l) := fun b hb => by
  unfold cleanL at hb
  have := (List.mem_filter.1 hb).2
  simpa using this
theorem nb_mid {l : List UInt8} (h : NB l) : NB (midL l) := by
  have hd : NB (dashL l) := fun b hb => by
    unfold dashL at hb
    obtain ⟨x, hx, rfl⟩ := List.mem_map.1 hb
    by_cases e : x = 32
    · rw [if_pos e]; rfl
    · rw [if_neg e]; exact h x hx
  unfold midL
  generalize dashL l = u at hd
  cases u with
  | nil => exact nb_cons rfl nb_nil
  | cons b r =>
    by_cases hb : b = 58
    · rw [show midU (b :: r) = 45 :: r from if_pos hb]
      exact nb_cons rfl fun x hx => hd x (List.mem_cons_of_mem _ hx)
    · rw [show midU (b :: r) = b :: r from if_neg hb]; exact hd
theorem nb_pars : ∀ qs : List (List UInt8), (∀ q ∈ qs, NB q) → ∀ q ∈ parsL qs, NB q
  | [], _, _, h => by cases h
  | [p], h, q, hq => by simp only [parsL, List.mem_singleton] at hq; subst hq; exact h _ (by simp)
  | p :: q :: r, h, x, hx => by
    simp only [parsL, List.mem_cons] at hx
    rcases hx with rfl | hx
    · exact nb_mid (h p (by simp))
    · exact nb_pars (q :: r) (fun y hy => h y (List.mem_cons_of_mem _ hy)) x hx
theorem nb_tail : ∀ qs : List (List UInt8), (∀ q ∈ qs, NB q) → NB (tailL qs)
  | [], _ => nb_nil
  | [p], h => by
    unfold tailL
    refine nb_cons rfl (nb_app ?_ (h p (by simp)))
    split
    · exact nb_cons rfl nb_nil
    · exact nb_nil
  | p :: q :: r, h => nb_cons rfl (nb_app (h p (by simp)) (nb_tail (q :: r) fun y hy => h y (List.mem_cons_of_mem _ hy)))
theorem nb_code (n : Nat) : NB (codeL n) := fun b hb => by
  have key : ∀ m, brkB (d14 m) = false := fun m => by
    have h1 := d14_nat m
    have hne : ∀ c : UInt8, c.toNat < 48 → d14 m ≠ c := fun c hc e => by rw [e] at h1; omega
    have q0 := hne 0 (by decide)
    have q1 := hne 13 (by decide)
    have q2 := hne 10 (by decide)
    show List.contains [0, 13, 10] (d14 m) = false
    simp [q0, q1, q2]
  simp only [codeL, List.mem_cons, List.not_mem_nil, or_false] at hb
  rcases hb with rfl | rfl | rfl <;> exact key _
/-- a server's name -/
def sL (k : Nat) : List UInt8 := List.replicate k 115
theorem sL_clean (k : Nat) : dashL (cleanL (sL k)) = sL k := by
  have h1 : cleanL (sL k) = sL k := by
    unfold cleanL sL
    rw [List.filter_eq_self]
    intro a ha
    rw [List.eq_of_mem_replicate ha]
    rfl
  rw [h1]
  exact dash_none fun b hb => by rw [List.eq_of_mem_replicate hb]; decide
def annL : List UInt8 := [97, 110, 110]
def headS (k n : Nat) : List UInt8 := (58 :: sL k) ++ [32] ++ codeL n ++ [32, 97, 110, 110]
theorem tail_ann (l : List (List UInt8)) : ∃ R, tailL (lineP (annL :: l)) = [32, 97, 110, 110] ++ R := by
  cases l with
  | nil => exact ⟨[], by decide +kernel⟩
  | cons q r =>
    have h1 : midL (cleanL annL) = annL := by decide +kernel
    cases r with
    | nil => exact ⟨tailL [cleanL q], by simp only [lineP, List.map_cons, List.map_nil, parsL, tailL, h1]; rfl⟩
    | cons q2 r2 => exact ⟨tailL (parsL (cleanL q :: cleanL q2 :: r2.map cleanL)), by simp only [lineP, List.map_cons, parsL, tailL, h1]; rfl⟩
/-- the line of the law: it begins so, is short enough, and no byte of it ends a line -/
theorem short_line (k n : Nat) (hk : 0 < k) (hk2 : k ≤ 100) (l : List (List UInt8)) : ∃ R, numL (sL k) annL n l = headS k n ++ R ∧ (headS k n ++ R).length ≤ 510 ∧ NB (headS k n ++ R) := by
  obtain ⟨R, hR⟩ := tail_ann l
  have hh : headL (sL k) = 58 :: (sL k ++ [32]) := by
    unfold headL
    rw [if_neg]
    intro e
    have := congrArg List.length e
    simp [sL] at this; omega
  have hw : writeL (dashL (cleanL (sL k))) (codeL n) (lineP (annL :: l)) = headS k n ++ R := by
    unfold writeL headS
    rw [sL_clean, hh, hR]
    simp
  have hlen : (headS k n).length ≤ 510 := by simp [headS, sL, codeL]; omega
  have hnb : NB (headS k n ++ R) := by
    rw [← hw]
    unfold writeL
    rw [sL_clean, hh]
    refine nb_app (nb_app (nb_cons rfl (nb_app (fun b hb => by rw [List.eq_of_mem_replicate hb]; rfl) (nb_cons rfl nb_nil))) (nb_code n)) (nb_tail _ ?_)
    unfold lineP
    refine nb_pars _ fun q hq => ?_
    obtain ⟨x, _, rfl⟩ := List.mem_map.1 hq
    exact nb_clean x
  have e : numL (sL k) annL n l = headS k n ++ R.take (510 - (headS k n).length) := by
    unfold numL makeL
    rw [show toL annL = annL from rfl, hw, List.take_append, List.take_of_length_le hlen]
  refine ⟨R.take (510 - (headS k n).length), e, ?_, ?_⟩
  · rw [List.length_append, List.length_take]; omega
  · intro b hb
    refine hnb b ?_
    rcases List.mem_append.1 hb with hb | hb
    · exact List.mem_append_left _ hb
    · exact List.mem_append_right _ (List.mem_of_mem_take hb)
/-- what the document tells -/
theorem awake_line : numL [105, 114, 99, 46, 120] annL 1 [[72, 105, 32, 116, 104, 101, 114, 101]] = [58, 105, 114, 99, 46, 120, 32, 48, 48, 49, 32, 97, 110, 110, 32, 58, 72, 105, 32, 116, 104, 101, 114, 101] := by decide +kernel
set_option maxRecDepth 100000 in
set_option maxHeartbeats 4000000 in
theorem awake14 (w : World) (hm : Mx w) (hp : PowW w) : Calls Tryd.prog 5 #[] w fun e w' => e = .returned (.bool true) ∧ Below w.heap.size w w' := by
  obtain ⟨W, hW⟩ : ∃ W, w.alloc (.cells #[.string (bs [72, 105, 32, 116, 104, 101, 114, 101])] 9) = W := ⟨_, rfl⟩
  have hb : Below w.heap.size w W := by rw [← hW]; exact (Below.refl _ w).alloc (Nat.le_refl _) _
  have hr : ReadsT W (some ⟨w.heap.size, 0, none⟩) [[72, 105, 32, 116, 104, 101, 114, 101]] := fun _ => ⟨_, _, rfl, by rw [← hW]; simp, fun j hj => by
    obtain rfl : j = 0 := by simpa using hj
    rw [← hW]
    exact blk_cell (heap_alloc_new w _) 0⟩
  have hn := numericM [105, 114, 99, 46, 120] annL 1 (some ⟨w.heap.size, 0, none⟩) 1 [[72, 105, 32, 116, 104, 101, 114, 101]] W hr (mx_kept hm hb (Nat.le_refl _)) (PowW.below hp hb) (by omega) (by omega) (by simp) (by simp) (by decide) (by intro p hp; simp at hp; subst hp; decide)
  rw [awake_line, ← hW, show bs [58, 105, 114, 99, 46, 120, 32, 48, 48, 49, 32, 97, 110, 110, 32, 58, 72, 105, 32, 116, 104, 101, 114, 101] = ({ data := #[58, 105, 114, 99, 46, 120, 32, 48, 48, 49, 32, 97, 110, 110, 32, 58, 72, 105, 32, 116, 104, 101, 114, 101] } : ByteArray) from rfl] at hn
  have HN := Lib.hid hn
  have HB := Lib.hid (show Below w.heap.size w (w.alloc (.cells #[.string (bs [72, 105, 32, 116, 104, 101, 114, 101])] 9)) by rw [hW]; exact hb)
  clear hn hm hp hr hb hW
  go_enter Tryd.func5, Tryd.ntmps5
  go_wp2_with (go_at_call 8; refine HN.out.mono ?_; rintro e w' ⟨rfl, hb⟩)
  go_ret
  exact ⟨rfl, HB.out.trans (hb.mono HB.out.size)⟩
end Go.Proofs.YtmoioihclnpcbaaDoor
