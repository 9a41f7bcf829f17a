/- glob.Short and the answers' Short. -/
import Derived.Test.YtoaimmojnmgelaaDoorGlobI
import Derived.Test.YtoaimmojnmgelaaDoorOwn
namespace Go.Proofs.YtoaimmojnmgelaaDoor
open Go.RowKit

/-- what is written so far, and whether a star waits -/
def shStep (st : List UInt8 × Bool) (c : UInt8) : List UInt8 × Bool :=
  if c = 42 then (st.1, true) else if c = 63 then (st.1 ++ [63], st.2) else ((if st.2 then st.1 ++ [42] else st.1) ++ [c], false)
def shS (l : List UInt8) : List UInt8 × Bool := l.foldl shStep ([], false)
def shortL (l : List UInt8) : List UInt8 := if (shS l).2 then (shS l).1 ++ [42] else (shS l).1
theorem shS_snoc (l : List UInt8) (c : UInt8) : shS (l ++ [c]) = shStep (shS l) c := by simp [shS]
theorem shS_next (s : ByteArray) (k : Nat) (h : k < s.size) : shS (s.data.toList.take (k + 1)) = shStep (shS (s.data.toList.take k)) s[k] := by
  rw [ba_take s k h, shS_snoc]
theorem shS_len (l : List UInt8) : (shS l).1.length + (if (shS l).2 then 1 else 0) ≤ l.length := by
  induction l using snoc_ind with
  | nil => simp [shS]
  | snoc l c ih =>
    rw [shS_snoc]
    unfold shStep
    simp only [List.length_append, List.length_cons, List.length_nil]
    by_cases h1 : c = 42
    · rw [if_pos h1]; simp only [if_true]; split at ih <;> omega
    · rw [if_neg h1]
      by_cases h2 : c = 63
      · rw [if_pos h2]; simp only [List.length_append, List.length_cons, List.length_nil]; split at ih <;> simp_all <;> omega
      · rw [if_neg h2]; simp only [List.length_append, List.length_cons, List.length_nil]; split at ih <;> simp_all
theorem shS_last (l : List UInt8) : ∀ x, (shS l).1.getLast? = some x → x ≠ 42 := by
  induction l using snoc_ind with
  | nil => simp [shS]
  | snoc l c ih =>
    rw [shS_snoc]
    unfold shStep
    intro x
    by_cases h1 : c = 42
    · rw [if_pos h1]; exact ih x
    · rw [if_neg h1]
      by_cases h2 : c = 63
      · rw [if_pos h2]; simp; intro h; subst h; decide
      · rw [if_neg h2]; simp; intro h; subst h; exact h1

/-- bytes as cells -/
def u8c (l : List UInt8) : List Value := l.map fun b => Value.int .u8 b.toNat
theorem u8c_append (a b : List UInt8) : u8c (a ++ b) = u8c a ++ u8c b := by simp [u8c]
theorem Tryd.infoU8b : (Tryd.prog.info? 5).map (fun i => (i.zero, i.size, i.bytes)) = some (some (.int .u8 0), 1, 1) := by kernel_rfl

set_option maxHeartbeats 4000000 in
theorem short_any (s : ByteArray) (w : World) (hs : s.size ≤ 1000000) :
    Calls Tryd.prog 41 #[.string s] w fun e w' => e = .returned (.string (bs (shortL s.data.toList))) ∧ Below w.heap.size w w' := by
  obtain ⟨i0, hi, hz0, hz1, hz2⟩ := info_parts Tryd.infoU8b
  go_enter Tryd.func41, Tryd.ntmps41
  go_wp2_with (at_make; refine wpList_make_own _ rfl _ _ 46 rfl w.heap.size 5 i0 (.int .u8 0) 1 Tryd.underlying46 hi hz0 hz1 .i64 .i64 (s.size : Int) s.size rfl rfl rfl (by rw [hz2]; omega) (by unfold maxLen; omega) (Nat.le_refl _) ?_; intro w1 hown hgrow)
  have hB0 : Below w.heap.size w w1 := (Below.refl _ _).grown hgrow (Nat.le_refl _) (by intro k hk; cases hk)
  have hb0 := hgrow.size
  clear hgrow
  go_loopw [3, 4, 11] (fun v st i wr => ∃ k : Nat, i = .int .i64 k ∧ k ≤ s.size ∧ st = .bool (shS (s.data.toList.take k)).2 ∧ wr.ownsRow w.heap.size 5 1 v (shS (s.data.toList.take k)).1.length (u8c (shS (s.data.toList.take k)).1) ∧ Below w.heap.size w wr ∧ w.heap.size ≤ wr.heap.size) (fun _ _ i _ => s.size - (intOf i).toNat)
  case atStart => exact ⟨0, rfl, Nat.zero_le _, rfl, hown, hB0, hb0⟩
  case round =>
    clear hown hB0 hb0
    obtain ⟨k, rfl, hk, rfl, hown, hB, hb⟩ := hrel
    have hlen := shS_len (s.data.toList.take k)
    have hlt0 : (s.data.toList.take k).length ≤ k := List.length_take_le _ _
    by_cases hlt : k < s.size
    · have hnx := shS_next s k hlt
      obtain ⟨⟨o, st⟩, ho⟩ : ∃ x, shS (s.data.toList.take k) = x := ⟨_, rfl⟩
      rw [ho] at hnx hown hlen ⊢
      have Hnx := Lib.hid hnx
      have hol : o.length ≤ 1000000 := by simp only at hlen; omega
      clear hnx ho hlen hlt0
      simp only at hown
      by_cases h1 : s[k] = 42
      · have hc1 : ((s[k].toNat : Int) == 42) = true := by rw [h1]; rfl
        go_wp2_with fail
        go_roundw
        case rel => exact ⟨k + 1, by go_num, by omega, by rw [Hnx.out]; simp [shStep, h1], by rw [Hnx.out]; simpa [shStep, h1] using hown, hB, hb⟩
        case measure => simp [intOf]; omega
      · have hc1 : ((s[k].toNat : Int) == 42) = false := by
          rw [beq_eq_false_iff_ne]; intro e; exact h1 (UInt8.toNat_inj.mp (by have : (42 : UInt8).toNat = 42 := rfl; omega))
        by_cases h2 : s[k] = 63
        · have hc2 : ((s[k].toNat : Int) != 63) = false := by rw [h2]; rfl
          cases st
          all_goals
            go_wp2_with (at_builtin; refine wpList_app_one rfl _ _ 46 rfl w.heap.size 5 i0 (.int .u8 0) 1 1 Tryd.underlying46 hi hz0 hz1 hz2 rfl (by decide) _ _ _ rfl hown #[.int .u8 63] rfl rfl (by intro u hu; simp at hu; subst hu; rfl) (by omega) (by decide) hB hb ?_; intro v1 w1 hown1 hB1 hb1)
            go_roundw
            case rel => exact ⟨k + 1, by go_num, by omega, by rw [Hnx.out]; simp [shStep, h2], by rw [Hnx.out]; simpa [shStep, h2, u8c] using hown1, hB1, hb1⟩
            case measure => simp [intOf]; omega
        · have hc2 : ((s[k].toNat : Int) != 63) = true := by
            rw [bne_iff_ne]; intro e; exact h2 (UInt8.toNat_inj.mp (by have : (63 : UInt8).toNat = 63 := rfl; omega))
          cases st
          · go_wp2_with (at_builtin; refine wpList_app_one rfl _ _ 46 rfl w.heap.size 5 i0 (.int .u8 0) 1 1 Tryd.underlying46 hi hz0 hz1 hz2 rfl (by decide) _ _ _ rfl hown #[.int .u8 s[k].toNat] rfl rfl (by intro u hu; simp at hu; subst hu; rfl) (by omega) (by decide) hB hb ?_; intro v1 w1 hown1 hB1 hb1)
            go_roundw
            case rel => exact ⟨k + 1, by go_num, by omega, by rw [Hnx.out]; simp [shStep, h1, h2], by rw [Hnx.out]; simpa [shStep, h1, h2, u8c] using hown1, hB1, hb1⟩
            case measure => simp [intOf]; omega
          · go_wp2_with (first | (at_builtin; refine wpList_app_one rfl (.tmp 25) (.tmp 26) 46 rfl w.heap.size 5 i0 (.int .u8 0) 1 1 Tryd.underlying46 hi hz0 hz1 hz2 rfl (by decide) _ _ _ rfl hown #[.int .u8 42] rfl rfl (by intro u hu; simp at hu; subst hu; rfl) (by omega) (by decide) hB hb ?_; intro v1 w1 hown1 hB1 hb1) | (at_builtin; refine wpList_app_one rfl (.tmp 28) (.tmp 32) 46 rfl w.heap.size 5 i0 (.int .u8 0) 1 1 Tryd.underlying46 hi hz0 hz1 hz2 rfl (by decide) _ _ _ rfl hown1 #[.int .u8 s[k].toNat] rfl rfl (by intro u hu; simp at hu; subst hu; rfl) (by omega) (by decide) hB1 hb1 ?_; intro v2 w2 hown2 hB2 hb2))
            go_roundw
            case rel => exact ⟨k + 1, by go_num, by omega, by rw [Hnx.out]; simp [shStep, h1, h2], by rw [Hnx.out]; simpa [shStep, h1, h2, u8c] using hown2, hB2, hb2⟩
            case measure => simp [intOf]; omega
    · obtain rfl : k = s.size := by omega
      have ht : s.data.toList.take s.size = s.data.toList := List.take_of_length_le (by simp)
      rw [ht] at hown hlen ⊢
      have hsh : shortL s.data.toList = if (shS s.data.toList).2 then (shS s.data.toList).1 ++ [42] else (shS s.data.toList).1 := rfl
      obtain ⟨⟨o, st⟩, ho⟩ : ∃ x, shS s.data.toList = x := ⟨_, rfl⟩
      rw [ho] at hsh hown hlen ⊢
      have Hsh := Lib.hid hsh
      have hol : o.length ≤ 1000000 := by simp only at hlen; have := len_ba s; omega
      clear hsh ho hlen hlt0 ht
      simp only at hown
      cases st
      · have hconv := conv_owned (P := Tryd.prog) wr 46 9 5 w.heap.size _ o Tryd.underlying46 Tryd.underlying5 Tryd.underlying9 hown
        go_wp2_with fail
        go_ret
        exact ⟨by rw [Hsh.out]; rfl, hB⟩
      · go_wp2_with (at_builtin; refine wpList_app_one rfl _ _ 46 rfl w.heap.size 5 i0 (.int .u8 0) 1 1 Tryd.underlying46 hi hz0 hz1 hz2 rfl (by decide) _ _ _ rfl hown #[.int .u8 42] rfl rfl (by intro u hu; simp at hu; subst hu; rfl) (by omega) (by decide) hB hb ?_; intro v1 w1 hown1 hB1 hb1; have hconv := conv_owned (P := Tryd.prog) w1 46 9 5 w.heap.size v1 (o ++ [42]) Tryd.underlying46 Tryd.underlying5 Tryd.underlying9 (by simpa [u8c] using hown1))
        go_ret
        exact ⟨by rw [Hsh.out]; rfl, hB1⟩
end Go.Proofs.YtoaimmojnmgelaaDoor
