/- valid.Key, Text, Clean and the answers' ones. -/
import Derived.Test.YtadbpgkhenbpfaaValidD
import Derived.Test.YtadbpgkhenbpfaaAnyB
import Derived.Test.YtadbpgkhenbpfaaOwn
namespace Go.Proofs.Ytadbpgkhenbpfaa
set_option linter.unusedVariables false
set_option linter.unusedSimpArgs false
open Go.RowKit





/-! Text -/
def brkB (c : UInt8) : Bool := (⟨#[0, 13, 10]⟩ : ByteArray).data.toList.contains c
def textL (l : List UInt8) : Bool := !l.any brkB
theorem inB_false {l : List UInt8} {c : UInt8} : inB l c = false ↔ c ∉ l := by
  unfold inB; rw [Bool.eq_false_iff, ne_eq, List.contains_iff_mem]
theorem textL_iff {l : List UInt8} : textL l = true ↔ ∀ x ∈ l, brkB x = false := by
  unfold textL
  rw [Bool.not_eq_true', List.any_eq_false]
  simp only [Bool.not_eq_true]
theorem brkB_iff {x : UInt8} : brkB x = false ↔ x ≠ 0 ∧ x ≠ 13 ∧ x ≠ 10 := by
  unfold brkB
  rw [Bool.eq_false_iff, ne_eq, List.contains_iff_mem]
  simp
theorem text_three (l : List UInt8) : textL l = (!inB l 0 && !inB l 10 && !inB l 13) := by
  rw [Bool.eq_iff_iff, textL_iff]
  simp only [Bool.and_eq_true, Bool.not_eq_true', inB_false]
  constructor
  · intro h
    exact ⟨⟨fun h0 => (brkB_iff.1 (h 0 h0)).1 rfl, fun h0 => (brkB_iff.1 (h 10 h0)).2.2 rfl⟩, fun h0 => (brkB_iff.1 (h 13 h0)).2.1 rfl⟩
  · rintro ⟨⟨h0, h10⟩, h13⟩ x hx
    exact brkB_iff.2 ⟨fun e => h0 (e ▸ hx), fun e => h13 (e ▸ hx), fun e => h10 (e ▸ hx)⟩
theorem text_v (s : ByteArray) (w : World) (hs : s.size ≤ 1000000) :
    Calls Try.prog 22 #[.string s] w fun e w' => e = .returned (.bool (textL s.data.toList)) ∧ Below w.heap.size w w' := by
  obtain ⟨b, hb⟩ : ∃ b, (s.data.toList.any fun x => (⟨#[0, 13, 10]⟩ : ByteArray).data.toList.contains x) = b := ⟨_, rfl⟩
  have ht : textL s.data.toList = !b := by rw [← hb]; rfl
  have HB := Lib.hid hb
  have HT := Lib.hid ht
  clear hb ht
  go_enter Try.func22, Try.ntmps22
  go_wp2_with fail
  refine (containsAnyB s ⟨#[0, 13, 10]⟩ _ hs (by decide) (by decide) (by unfold asciiL; decide)).mono ?_
  rintro e w1 ⟨rfl, q⟩
  rw [HB.out]
  go_wp2_with fail
  go_ret
  exact ⟨ret_bool (by rw [HT.out]), q⟩
theorem text_r (s : ByteArray) (w : World) (hs : s.size ≤ 1000000) :
    Calls Try.prog 23 #[.string s] w fun e w' => e = .returned (.bool (textL s.data.toList)) ∧ w = w' := by
  have ht := text_three s.data.toList
  obtain ⟨x, hx⟩ : ∃ x, inB s.data.toList 0 = x := ⟨_, rfl⟩
  obtain ⟨y, hy⟩ : ∃ x, inB s.data.toList 10 = x := ⟨_, rfl⟩
  obtain ⟨z, hz⟩ : ∃ x, inB s.data.toList 13 = x := ⟨_, rfl⟩
  rw [hx, hy, hz] at ht
  have HX := Lib.hid hx
  have HY := Lib.hid hy
  have HZ := Lib.hid hz
  have HT := Lib.hid ht
  clear hx hy hz ht
  go_enter Try.func23, Try.ntmps23
  go_wp2_with fail
  refine (in_any s 0 _ hs).mono ?_
  rintro e w' ⟨rfl, rfl⟩
  rw [HX.out]
  cases x
  rotate_left
  · go_wp2_with fail
    go_ret
    exact ⟨ret_bool (by rw [HT.out]; rfl), rfl⟩
  go_wp2_with fail
  refine (in_any s 10 _ hs).mono ?_
  rintro e w' ⟨rfl, rfl⟩
  rw [HY.out]
  cases y
  rotate_left
  · go_wp2_with fail
    go_ret
    exact ⟨ret_bool (by rw [HT.out]; rfl), rfl⟩
  go_wp2_with fail
  refine (in_any s 13 _ hs).mono ?_
  rintro e w' ⟨rfl, rfl⟩
  rw [HZ.out]
  go_wp2_with fail
  go_ret
  exact ⟨ret_bool (by rw [HT.out]; simp), rfl⟩

/-! Clean -/
theorem ba_take' (s : ByteArray) (k : Nat) (h : k < s.size) : s.data.toList.take (k + 1) = s.data.toList.take k ++ [s[k]] := by
  rw [List.take_succ_eq_append_getElem (by simpa using h)]; rfl
def cleanL (l : List UInt8) : List UInt8 := l.filter fun c => !brkB c
theorem clean_text {l : List UInt8} (h : textL l = true) : cleanL l = l := by
  unfold cleanL
  rw [List.filter_eq_self]
  intro c hc
  rw [textL_iff.1 h c hc]; rfl
theorem text_clean (l : List UInt8) : textL (cleanL l) = true := by
  rw [textL_iff]
  intro x hx
  unfold cleanL at hx
  have := (List.mem_filter.1 hx).2
  simpa using this
theorem text_take {l : List UInt8} (h : textL l = true) (n : Nat) : textL (l.take n) = true := by
  rw [textL_iff] at h ⊢
  exact fun x hx => h x (List.mem_of_mem_take hx)
theorem clean_snoc (l : List UInt8) (c : UInt8) : cleanL (l ++ [c]) = cleanL l ++ (if brkB c then [] else [c]) := by
  unfold cleanL
  rw [List.filter_append]
  cases h : brkB c <;> simp [h]
theorem clean_len (l : List UInt8) : (cleanL l).length ≤ l.length := List.length_filter_le _ _
theorem clean_next (s : ByteArray) (k : Nat) (h : k < s.size) : cleanL (s.data.toList.take (k + 1)) = cleanL (s.data.toList.take k) ++ (if brkB s[k] then [] else [s[k]]) := by
  rw [ba_take' s k h, clean_snoc]
/-- how many bytes are kept -/
def mostN (n : Nat) (most : Int) : Nat := (max 0 (min (n : Int) most)).toNat
def u8d (l : List UInt8) : List Value := l.map fun b => Value.int .u8 b.toNat
theorem Try.infoU8c : (Try.prog.info? 5).map (fun i => (i.zero, i.size, i.bytes)) = some (some (.int .u8 0), 1, 1) := by kernel_rfl
theorem idx_brk (c : UInt8) : (0 ≤ Lib.indexByte (⟨#[0, 13, 10]⟩ : ByteArray).data.toList c) ↔ brkB c = true := by
  unfold brkB
  rw [Lib.contains_iff_indexByte, decide_eq_true_iff]



/-- what is cleaned -/
def cleanV (s : ByteArray) (most : Int) : ByteArray := bs ((cleanL s.data.toList).take most.toNat)
theorem most_of (n : Nat) (most : Int) : ∃ m : Nat, max (0 : Int) (min (n : Int) most) = m ∧ m ≤ n ∧ ∀ l : List UInt8, l.length = n → l.take m = l.take most.toNat := by
  by_cases h1 : most < 0
  · exact ⟨0, by omega, by omega, fun l _ => by rw [show most.toNat = 0 by omega]⟩
  · by_cases h2 : most ≤ n
    · exact ⟨most.toNat, by omega, by omega, fun l _ => rfl⟩
    · exact ⟨n, by omega, Nat.le_refl _, fun l hl => by rw [List.take_of_length_le (by omega), List.take_of_length_le (by omega)]⟩
end Go.Proofs.Ytadbpgkhenbpfaa
