/- valid.Key, Text, Clean and the answers' ones. -/
import Derived.Test.YtmoioihclnpcbaaDoorValidD
import Derived.Test.YtmoioihclnpcbaaDoorAnyB
import Derived.Test.YtmoioihclnpcbaaDoorOwn
namespace Go.Proofs.YtmoioihclnpcbaaDoor
set_option linter.unusedVariables false
set_option linter.unusedSimpArgs false
open Go.RowKit





/-! Text -/
def brkB (c : UInt8) : Bool := (⟨#[0, 13, 10]⟩ : ByteArray).data.toList.contains c
def textL (l : List UInt8) : Bool := !l.any brkB
theorem inB_false {l : List UInt8} {c : UInt8} : inB l c = false ↔ c ∉ l := by
  unfold inB; rw [Bool.eq_false_iff, ne_eq, List.contains_iff_mem]
theorem textL_iff {l : List UInt8} : textL l = true ↔ ∀ x ∈ l, brkB x = false := by
  unfold textL
  rw [Bool.not_eq_true', List.any_eq_false]
  simp only [Bool.not_eq_true]
theorem brkB_iff {x : UInt8} : brkB x = false ↔ x ≠ 0 ∧ x ≠ 13 ∧ x ≠ 10 := by
  unfold brkB
  rw [Bool.eq_false_iff, ne_eq, List.contains_iff_mem]
  simp
theorem text_three (l : List UInt8) : textL l = (!inB l 0 && !inB l 10 && !inB l 13) := by
  rw [Bool.eq_iff_iff, textL_iff]
  simp only [Bool.and_eq_true, Bool.not_eq_true', inB_false]
  constructor
  · intro h
    exact ⟨⟨fun h0 => (brkB_iff.1 (h 0 h0)).1 rfl, fun h0 => (brkB_iff.1 (h 10 h0)).2.2 rfl⟩, fun h0 => (brkB_iff.1 (h 13 h0)).2.1 rfl⟩
  · rintro ⟨⟨h0, h10⟩, h13⟩ x hx
    exact brkB_iff.2 ⟨fun e => h0 (e ▸ hx), fun e => h13 (e ▸ hx), fun e => h10 (e ▸ hx)⟩
theorem text_v (s : ByteArray) (w : World) (hs : s.size ≤ 1000000) :
    Calls Tryd.prog 29 #[.string s] w fun e w' => e = .returned (.bool (textL s.data.toList)) ∧ Below w.heap.size w w' := by
  obtain ⟨b, hb⟩ : ∃ b, (s.data.toList.any fun x => (⟨#[0, 13, 10]⟩ : ByteArray).data.toList.contains x) = b := ⟨_, rfl⟩
  have ht : textL s.data.toList = !b := by rw [← hb]; rfl
  have HB := Lib.hid hb
  have HT := Lib.hid ht
  clear hb ht
  go_enter Tryd.func29, Tryd.ntmps29
  go_wp2_with fail
  refine (containsAnyB s ⟨#[0, 13, 10]⟩ _ hs (by decide) (by decide) (by unfold asciiL; decide)).mono ?_
  rintro e w1 ⟨rfl, q⟩
  rw [HB.out]
  go_wp2_with fail
  go_ret
  exact ⟨ret_bool (by rw [HT.out]), q⟩


/-! Clean -/
theorem ba_take' (s : ByteArray) (k : Nat) (h : k < s.size) : s.data.toList.take (k + 1) = s.data.toList.take k ++ [s[k]] := by
  rw [List.take_succ_eq_append_getElem (by simpa using h)]; rfl
def cleanL (l : List UInt8) : List UInt8 := l.filter fun c => !brkB c
theorem clean_text {l : List UInt8} (h : textL l = true) : cleanL l = l := by
  unfold cleanL
  rw [List.filter_eq_self]
  intro c hc
  rw [textL_iff.1 h c hc]; rfl
theorem text_clean (l : List UInt8) : textL (cleanL l) = true := by
  rw [textL_iff]
  intro x hx
  unfold cleanL at hx
  have := (List.mem_filter.1 hx).2
  simpa using this
theorem text_take {l : List UInt8} (h : textL l = true) (n : Nat) : textL (l.take n) = true := by
  rw [textL_iff] at h ⊢
  exact fun x hx => h x (List.mem_of_mem_take hx)
theorem clean_snoc (l : List UInt8) (c : UInt8) : cleanL (l ++ [c]) = cleanL l ++ (if brkB c then [] else [c]) := by
  unfold cleanL
  rw [List.filter_append]
  cases h : brkB c <;> simp [h]
theorem clean_len (l : List UInt8) : (cleanL l).length ≤ l.length := List.length_filter_le _ _
theorem clean_next (s : ByteArray) (k : Nat) (h : k < s.size) : cleanL (s.data.toList.take (k + 1)) = cleanL (s.data.toList.take k) ++ (if brkB s[k] then [] else [s[k]]) := by
  rw [ba_take' s k h, clean_snoc]
/-- how many bytes are kept -/
def mostN (n : Nat) (most : Int) : Nat := (max 0 (min (n : Int) most)).toNat
def u8d (l : List UInt8) : List Value := l.map fun b => Value.int .u8 b.toNat
theorem Tryd.infoU8c : (Tryd.prog.info? 5).map (fun i => (i.zero, i.size, i.bytes)) = some (some (.int .u8 0), 1, 1) := by kernel_rfl
theorem idx_brk (c : UInt8) : (0 ≤ Lib.indexByte (⟨#[0, 13, 10]⟩ : ByteArray).data.toList c) ↔ brkB c = true := by
  unfold brkB
  rw [Lib.contains_iff_indexByte, decide_eq_true_iff]

set_option maxRecDepth 100000 in
set_option maxHeartbeats 4000000 in
theorem unbroken_any (s : ByteArray) (w : World) (hs : s.size ≤ 1000000) :
    Calls Tryd.prog 30 #[.string s] w fun e w' => e = .returned (.string (bs (cleanL s.data.toList))) ∧ Below w.heap.size w w' := by
  obtain ⟨i0, hi, hz0, hz1, hz2⟩ := info_parts Tryd.infoU8c
  go_enter Tryd.func30, Tryd.ntmps30
  go_wp2_with (at_make; refine wpList_make_own _ rfl _ _ 32 rfl w.heap.size 5 i0 (.int .u8 0) 1 Tryd.underlying32 hi hz0 hz1 .i64 .i64 (s.size : Int) s.size rfl rfl rfl (by rw [hz2]; omega) (by unfold maxLen; omega) (Nat.le_refl _) ?_; intro w1 hown hgrow)
  have hB0 : Below w.heap.size w w1 := (Below.refl _ _).grown hgrow (Nat.le_refl _) (by intro k hk; cases hk)
  have hb0 := hgrow.size
  clear hgrow
  go_loopw [3, 4, 10] (fun v _ i wr => ∃ k : Nat, i = .int .i64 k ∧ k ≤ s.size ∧ wr.ownsRow w.heap.size 5 1 v (cleanL (s.data.toList.take k)).length (u8d (cleanL (s.data.toList.take k))) ∧ Below w.heap.size w wr ∧ w.heap.size ≤ wr.heap.size) (fun _ _ i _ => s.size - (intOf i).toNat)
  case atStart => exact ⟨0, rfl, Nat.zero_le _, hown, hB0, hb0⟩
  case round =>
    clear hown hB0 hb0
    obtain ⟨k, rfl, hk, hown, hB, hb⟩ := hrel
    by_cases hlt : k < s.size
    · have hnx := clean_next s k hlt
      have hl : (cleanL (s.data.toList.take k)).length ≤ 1000000 := by
        have h1 := clean_len (s.data.toList.take k)
        have h2 : (s.data.toList.take k).length ≤ k := List.length_take_le _ _
        omega
      obtain ⟨o, ho⟩ : ∃ o, cleanL (s.data.toList.take k) = o := ⟨_, rfl⟩
      rw [ho] at hnx hown hl
      have hix := idx_brk s[k]
      have hback : ((s[k].toNat : Int)).toNat.toUInt8 = s[k] := by simp
      cases hbr : brkB s[k] with
      | true =>
        rw [hbr] at hnx hix
        have hge : 0 ≤ Lib.indexByte (⟨#[0, 13, 10]⟩ : ByteArray).data.toList s[k] := hix.2 rfl
        have HN := Lib.hid hnx
        clear hnx hix hbr ho
        go_wp2_with (go_at_call 42; refine (idxByte _ _ _).mono ?_; rintro e w' ⟨rfl, rfl⟩; rw [hback])
        go_roundw
        case rel => exact ⟨k + 1, by go_num, by omega, by rw [HN.out]; simpa using hown, hB, hb⟩
        case measure => simp [intOf]; omega
      | false =>
        rw [hbr] at hnx hix
        have hge : Lib.indexByte (⟨#[0, 13, 10]⟩ : ByteArray).data.toList s[k] < 0 := by
          have : ¬ 0 ≤ Lib.indexByte (⟨#[0, 13, 10]⟩ : ByteArray).data.toList s[k] := fun h => Bool.noConfusion (hix.1 h)
          omega
        have HN := Lib.hid hnx
        clear hnx hix hbr ho
        go_wp2_with (first | (go_at_call 42; refine (idxByte _ _ _).mono ?_; rintro e w' ⟨rfl, rfl⟩; rw [hback]) | (at_builtin; refine wpList_app_one rfl _ _ 32 rfl w.heap.size 5 i0 (.int .u8 0) 1 1 Tryd.underlying32 hi hz0 hz1 hz2 rfl (by decide) _ _ _ rfl hown #[.int .u8 s[k].toNat] rfl rfl (by intro u hu; simp at hu; subst hu; rfl) (by omega) (by decide) hB hb ?_; intro v1 w1 hown1 hB1 hb1))
        go_roundw
        case rel => exact ⟨k + 1, by go_num, by omega, by rw [HN.out]; simpa [u8d] using hown1, hB1, hb1⟩
        case measure => simp [intOf]; omega
    · obtain rfl : k = s.size := by omega
      have ht : s.data.toList.take s.size = s.data.toList := List.take_of_length_le (by simp)
      rw [ht] at hown
      have hconv := conv_owned (P := Tryd.prog) wr 32 9 5 w.heap.size _ (cleanL s.data.toList) Tryd.underlying32 Tryd.underlying5 Tryd.underlying9 hown
      go_wp2_with fail
      go_ret
      exact ⟨rfl, hB⟩

/-- what is cleaned -/
def cleanV (s : ByteArray) (most : Int) : ByteArray := bs ((cleanL s.data.toList).take most.toNat)
theorem most_of (n : Nat) (most : Int) : ∃ m : Nat, max (0 : Int) (min (n : Int) most) = m ∧ m ≤ n ∧ ∀ l : List UInt8, l.length = n → l.take m = l.take most.toNat := by
  by_cases h1 : most < 0
  · exact ⟨0, by omega, by omega, fun l _ => by rw [show most.toNat = 0 by omega]⟩
  · by_cases h2 : most ≤ n
    · exact ⟨most.toNat, by omega, by omega, fun l _ => rfl⟩
    · exact ⟨n, by omega, Nat.le_refl _, fun l hl => by rw [List.take_of_length_le (by omega), List.take_of_length_le (by omega)]⟩
set_option maxRecDepth 100000 in
set_option maxHeartbeats 4000000 in
theorem clean_v (s : ByteArray) (most : Int) (w : World) (hs : s.size ≤ 1000000) :
    Calls Tryd.prog 22 #[.string s, .int .i64 most] w fun e w' => e = .returned (.string (cleanV s most)) ∧ Below w.heap.size w w' := by
  cases ht : textL s.data.toList with
  | true =>
    obtain ⟨m, hm, hml, htk⟩ := most_of s.size most
    have hv : (s.extract 0 m) = cleanV s most := ba_ext (by
      unfold cleanV
      rw [bs_toList, clean_text ht, ← htk _ (by simp), Lib.extract_data]; simp)
    have HT := Lib.hid ht
    have HV := Lib.hid hv
    have hm0 : (m : Int) ≤ s.size := by omega
    clear ht hv htk
    go_enter Tryd.func22, Tryd.ntmps22
    go_wp2_with fail
    refine (text_v _ _ hs).mono ?_
    rintro e w1 ⟨rfl, q⟩
    rw [HT.out]
    go_wp2_with fail
    go_ret
    exact ⟨ret_str (by first | exact HV.out | (rw [← HV.out]; congr 1; omega) | (rw [← HV.out])), q⟩
  | false =>
    have hcl : (bs (cleanL s.data.toList)).size = (cleanL s.data.toList).length := by simp
    have hcs : (bs (cleanL s.data.toList)).size ≤ 1000000 := by
      rw [hcl]
      have := clean_len s.data.toList
      have h2 : s.data.toList.length = s.size := by simp
      omega
    obtain ⟨c, hc⟩ : ∃ c, bs (cleanL s.data.toList) = c := ⟨_, rfl⟩
    have hcd : c.data.toList = cleanL s.data.toList := by rw [← hc]; simp
    rw [hc] at hcs
    obtain ⟨m, hm, hml, htk⟩ := most_of c.size most
    have hv : (c.extract 0 m) = cleanV s most := ba_ext (by
      unfold cleanV
      rw [bs_toList, ← hcd, ← htk _ (by simp), Lib.extract_data]; simp)
    have HT := Lib.hid ht
    have HV := Lib.hid hv
    have HC := Lib.hid hc
    have hm0 : (m : Int) ≤ c.size := by omega
    clear ht hv htk hcl hc hcd
    go_enter Tryd.func22, Tryd.ntmps22
    go_wp2_with fail
    refine (text_v _ _ hs).mono ?_
    rintro e w1 ⟨rfl, q⟩
    rw [HT.out]
    go_wp2_with fail
    refine (unbroken_any _ _ hs).mono ?_
    rintro e w2 ⟨rfl, q2⟩
    rw [HC.out]
    go_wp2_with fail
    go_ret
    exact ⟨ret_str (by first | exact HV.out | (rw [← HV.out]; congr 1; omega) | (rw [← HV.out])), q.trans (q2.mono q.size)⟩
end Go.Proofs.YtmoioihclnpcbaaDoor
