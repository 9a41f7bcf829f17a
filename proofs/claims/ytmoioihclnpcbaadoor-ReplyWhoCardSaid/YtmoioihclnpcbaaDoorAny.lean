/- strings.IndexAny, ContainsAny of whatever bytes, among some ASCII ones: the short road (rune by rune). -/
import Derived.Test.YtmoioihclnpcbaaDoorValidA
import Derived.Test.YtmoioihclnpcbaaDoorOwn
import Derived.Laws.Runes
import Derived.Laws.RangeAny
import Derived.Laws.Strings3
import Derived.Deep.LoopGhost
import Derived.IntWalk
import Derived.Lib.IndexAny
import Derived.Lib.IndexBytes
import Derived.Lib.OthersKept
import Derived.Test.YtmoioihclnpcbaaDoorGlobG
namespace Go.Proofs.YtmoioihclnpcbaaDoor
set_option linter.unusedVariables false
set_option linter.unusedSimpArgs false
open Go.RowKit

/-- all bytes are ASCII -/
def asciiL (l : List UInt8) : Prop := (l.all fun b => decide (b.toNat < 128)) = true
theorem asciiL.at {l : List UInt8} (h : asciiL l) : ∀ b ∈ l, b.toNat < 128 := fun b hb => by
  have := List.all_eq_true.1 h b hb
  simpa using this
theorem ascii_no {l : List UInt8} (h : asciiL l) {b : UInt8} (hb : 128 ≤ b.toNat) : l.contains b = false := by
  rw [Bool.eq_false_iff, ne_eq, List.contains_iff_mem]
  intro hm
  have := h.at b hm
  omega
theorem getbang (s : ByteArray) (i : Nat) (h : i < s.size) : s.get! i = s[i] := by
  simp [ByteArray.get!, getElem!_pos, h]
  rfl
/-- of what is no ASCII byte as many bytes are taken as are none -/
theorem decode_span (s : ByteArray) (pos : Nat) (h : pos < s.size) (ha : 128 ≤ (s[pos]'h).toNat) : ∀ k, k < (Utf8.decode s pos).2 → ∃ h : pos + k < s.size, 128 ≤ (s[pos + k]'h).toNat := by
  have hc : ∀ k, ((decide (pos + k < s.size) && (s.get! (pos + k)).toNat / 64 == 2) = true) → ∃ h : pos + k < s.size, 128 ≤ (s[pos + k]'h).toNat := by
    intro k hk
    simp only [Bool.and_eq_true, decide_eq_true_eq, beq_iff_eq] at hk
    refine ⟨hk.1, ?_⟩
    have := hk.2
    rw [getbang s _ hk.1] at this
    omega
  have h0 : ∃ h : pos + 0 < s.size, 128 ≤ (s[pos + 0]'h).toNat := ⟨h, ha⟩
  have hn : ¬ (s[pos]'h).toNat < 128 := by omega
  have one : ∀ k, k < 1 → ∃ h : pos + k < s.size, 128 ≤ (s[pos + k]'h).toNat := fun k hk => by
    obtain rfl : k = 0 := by omega
    exact h0
  unfold Utf8.decode
  simp only [get_at s pos h, hn, if_false]
  split
  · rename_i hx
    rw [Bool.and_eq_true] at hx
    have c1 := hc 1 hx.2
    split
    · intro k hk
      rcases (by simp at hk; omega : k = 0 ∨ k = 1) with rfl | rfl
      · exact h0
      · exact c1
    · exact one
  · split
    · rename_i hx
      rw [Bool.and_eq_true, Bool.and_eq_true] at hx
      have c1 := hc 1 hx.1.2
      have c2 := hc 2 hx.2
      split
      · intro k hk
        rcases (by simp at hk; omega : k = 0 ∨ k = 1 ∨ k = 2) with rfl | rfl | rfl
        · exact h0
        · exact c1
        · exact c2
      · exact one
    · split
      · rename_i hx
        rw [Bool.and_eq_true, Bool.and_eq_true, Bool.and_eq_true] at hx
        have c1 := hc 1 hx.1.1.2
        have c2 := hc 2 hx.1.2
        have c3 := hc 3 hx.2
        split
        · intro k hk
          rcases (by simp at hk; omega : k = 0 ∨ k = 1 ∨ k = 2 ∨ k = 3) with rfl | rfl | rfl | rfl
          · exact h0
          · exact c1
          · exact c2
          · exact c3
        · exact one
      · exact one
theorem decode_valid (s : ByteArray) (pos : Nat) (h : pos < s.size) : Utf8.valid ((Utf8.decode s pos).1 : Int) = true := by
  have hb : ∀ k, (s.get! (pos + k)).toNat < 256 := fun k => (s.get! (pos + k)).toNat_lt
  have h0 := hb 0; have h1 := hb 1; have h2 := hb 2; have h3 := hb 3
  have small : ∀ n : Nat, n < 55296 → Utf8.valid (n : Int) = true := fun n hn => by simp [Utf8.valid]; omega
  simp only [Utf8.decode]
  split
  · exact small _ (by omega)
  · split
    · split
      · exact small _ (by omega)
      · rfl
    · split
      · split
        · rename_i hx; rw [Bool.and_eq_true] at hx; exact hx.2
        · rfl
      · split
        · split
          · rename_i hx; rw [Bool.and_eq_true] at hx; exact hx.2
          · rfl
        · rfl

theorem validRune_any (r : Int) (w : World) (h0 : 0 ≤ r) (h1 : r ≤ 1114111) (hv : Utf8.valid r = true) :
    Calls Tryd.prog 75 #[.int .i32 r] w fun e w' => e = .returned (.bool true) ∧ w = w' := by
  have hh : r < 55296 ∨ 57343 < r := by
    rw [validRune_eq, validRune, decide_eq_true_iff] at hv; omega
  clear hv
  rcases hh with h | h
  · go_enter Tryd.func75, Tryd.ntmps75
    go_wp2_with fail
    go_ret
    exact ⟨rfl, rfl⟩
  · have h' : ¬ r < 55296 := by omega
    go_enter Tryd.func75, Tryd.ntmps75
    go_wp2_with fail
    go_ret
    exact ⟨rfl, rfl⟩

theorem should_any (n : Int) (w : World) :
    Calls Tryd.prog 68 #[.int .i64 n] w fun e w' => e = .returned (.bool (decide (8 < n))) ∧ w = w' := by
  go_enter Tryd.func68, Tryd.ntmps68
  go_wp2_with fail
  go_ret
  exact ⟨rfl, rfl⟩
set_option maxRecDepth 1000000 in
set_option maxHeartbeats 2000000 in
theorem idxRune_lo (s : ByteArray) (r : Int) (w : World) (h0 : 0 ≤ r) (h1 : r < 128) :
    Calls Tryd.prog 67 #[.string s, .int .i32 r] w fun e w' => e = .returned (.int .i64 (Lib.indexByte s.data.toList r.toNat.toUInt8)) ∧ w = w' := by
  go_enter Tryd.func67, Tryd.ntmps67
  go_wp2_with (go_at_call 42; refine (idxByte _ _ _).mono ?_; rintro e w' ⟨rfl, rfl⟩)
  go_ret
  exact ⟨rfl, rfl⟩

set_option maxRecDepth 1000000 in
set_option maxHeartbeats 4000000 in
/-- U+FFFD isn't among ASCII bytes -/
theorem idxRune_bad (s : ByteArray) (w : World) (ha : asciiL s.data.toList) (hs : s.size ≤ 1000) :
    Calls Tryd.prog 67 #[.string s, .int .i32 65533] w fun e w' => e = .returned (.int .i64 (-1)) ∧ Below w.heap.size w w' := by
  have HA := Lib.hid ha
  clear ha
  go_enter Tryd.func67, Tryd.ntmps67
  go_wp2_with fail
  go_loopg [5, 6] s.size (fun g _ _ wx => ∃ i : Nat, i + g = s.size ∧ wx = w.iter s i)
  case atStart => exact ⟨0, by omega, rfl⟩
  case round =>
    obtain ⟨i, hig, rfl⟩ := hrel
    cases gk with
    | zero =>
      obtain rfl : i = s.size := by omega
      have hnx := run_next_end (P := Tryd.prog) w s s.size
      go_wp2_with fail
      go_ret
      exact ⟨rfl, (Below.refl _ _).alloc (Nat.le_refl _) _⟩
    | succ g =>
      have hi : i < s.size := by omega
      have hx128 : (s[i]'hi).toNat < 128 := HA.out.at _ (by rw [← get_ba s i hi]; exact List.getElem_mem _)
      have hne : (((s[i]'hi).toNat : Int) == 65533) = false := by rw [beq_eq_false_iff_ne]; omega
      have hnx := fun ty => run_next_ascii (P := Tryd.prog) w s i ty hi hx128
      go_wp2_with fail
      go_roundg g
      case measure => omega
      case rel => exact ⟨i + 1, by omega, rfl⟩

set_option maxRecDepth 1000000 in
set_option maxHeartbeats 4000000 in
/-- a rune that is none of ASCII isn't among ASCII bytes -/
theorem idxRune_hi (s : ByteArray) (r : Int) (w : World) (ha : asciiL s.data.toList) (hs : s.size ≤ 1000) (h0 : 128 ≤ r) (h1 : r ≤ 1114111) (hv : Utf8.valid r = true) (hne : r ≠ 65533) :
    Calls Tryd.prog 67 #[.string s, .int .i32 r] w fun e w' => e = .returned (.int .i64 (-1)) ∧ Below w.heap.size w w' := by
  obtain ⟨f1, f2, f3⟩ := encode_facts r hv h0
  have hb : (r == 65533) = false := by rw [beq_eq_false_iff_ne]; exact hne
  obtain ⟨rs, hrs⟩ : ∃ rs, Utf8.encode r = rs := ⟨_, rfl⟩
  rw [hrs] at f1 f2 f3
  have f4 := f3 (by omega)
  have HV := Lib.hid hv
  have HRS := Lib.hid hrs
  have hno : ∀ k, Lib.indexByte (s.extract k s.size).data.toList rs[rs.size - 1] = -1 := fun k => idx_none fun j hj => by
    have := ha.at _ (by rw [ba_extract_to] at hj; exact List.mem_of_mem_drop (List.mem_of_getElem? hj))
    omega
  have hsz : 1 ≤ rs.size := by omega
  have HNO := Lib.hid hno
  clear hv hrs hne f3 hno
  have hcv : ∀ w, (convert 21 9 (.int .i32 r)).run Tryd.prog w = .ok (.string rs) w := fun w => by
    rw [run_convert_int_string (P := Tryd.prog) w 21 9 .i32 r (by rw [Tryd.underlying21]; rfl) Tryd.underlying9, HRS.out]
  by_cases hl : rs.size - 1 < s.size
  · have hlt := ha.at s[rs.size - 1] (by rw [← get_ba s _ hl]; exact List.getElem_mem _)
    have hq : ((s[rs.size - 1].toNat : Int) != (rs[rs.size - 1].toNat : Int)) = true := by rw [bne_iff_ne]; omega
    have HA := Lib.hid ha
    clear ha
    go_enter Tryd.func67, Tryd.ntmps67
    go_wp2_with (go_at_call 75; refine (validRune_any _ _ (by omega) h1 HV.out).mono ?_; rintro e w' ⟨rfl, rfl⟩)
    go_step3
    go_wp2_with fail
    obtain ⟨n, hn⟩ : ∃ n, n + 1 = rs.size := ⟨rs.size - 1, by omega⟩
    have p1 : (n : Int) < (s.size : Int) := by omega
    have p2 : (n : Int) < (rs.size : Int) := by omega
    have p3 : n < s.size := by omega
    have p4 : n < rs.size := by omega
    have en : rs.size - 1 = n := by omega
    have hq' : ((s[n].toNat : Int) != (rs[n].toNat : Int)) = true := by simpa only [en] using hq
    have hno : ∀ k, Lib.indexByte (s.extract k s.size).data.toList rs[n] = -1 := by simpa only [en] using HNO.out
    have hno2 : ∀ k, Lib.indexByte (s.data.toList.drop k) rs[n] = -1 := fun k => by rw [← ba_extract_to]; exact hno k
    have HN := Lib.hid (And.intro hn en)
    have HO := Lib.hid (And.intro hno hno2)
    clear hq hno hno2 hl hlt hsz en f4
    rw [show ((rs.size : Int) - 1) = (n : Int) from by have := HN.out.1; omega]
    go_loopw [9] (fun i wr => i = .int .i64 n ∧ wr = w) (fun _ _ => 0)
    case atStart => exact ⟨rfl, rfl⟩
    case round =>
      obtain ⟨rfl, rfl⟩ := hrel
      clear hn
      go_wp2_with fail
      go_step3
      go_wp2_with fail
      go_quiet (fail)
      go_wp2_with fail
      generalize hW : wr.drewN nq = W1
      have HW := Lib.hid hW
      clear hW
      have hback : ((rs[n].toNat : Int)).toNat.toUInt8 = rs[n] := by simp
      have s0 : (n : Int) + 1 ≤ (s.size : Int) := by omega
      have s2 : (0 : Int) ≤ (n : Int) + 1 := by omega
      have s3 : ((n : Int) + 1).toNat = n + 1 := by omega
      have s1 : IntKind.i64.wrap ((n : Int) + 1) = (n : Int) + 1 := IntWalk.i64_in _ (by omega)
      go_quiet ((go_at_call 42; refine Calls.quiet_of_same ((idxByte _ _ _).mono fun e w' h => ⟨h.1, h.2.symm⟩)))
      rw [hback, HO.out.1]
      clear s1 s2
      go_wp2_with fail
      rw [Exit.noGoto_ret]
      simp +zetaDelta only [Exit.inBlock, Exit.then, Exit.noGoto_ret]
      go_ret
      exact ⟨rfl, (Below.refl _ _).trans (by rw [← HW.out]; exact ⟨rfl, rfl, rfl, Nat.le_refl _, fun _ _ => rfl⟩)⟩
  · have HA := Lib.hid ha
    clear ha
    go_enter Tryd.func67, Tryd.ntmps67
    go_wp2_with (go_at_call 75; refine (validRune_any _ _ (by omega) h1 HV.out).mono ?_; rintro e w' ⟨rfl, rfl⟩)
    go_step3
    go_wp2_with fail
    go_loopw [9] (fun i wr => i = .int .i64 ((rs.size : Int) - 1) ∧ wr = w) (fun _ _ => 0)
    case atStart => exact ⟨rfl, rfl⟩
    case round =>
      obtain ⟨rfl, rfl⟩ := hrel
      go_wp2_with fail
      rw [Exit.noGoto_ret]
      go_ret
      exact ⟨rfl, Below.refl _ _⟩

set_option maxRecDepth 1000000 in
set_option maxHeartbeats 4000000 in
theorem idxRune_any (s : ByteArray) (r : Nat) (w : World) (ha : asciiL s.data.toList) (hs : s.size ≤ 1000) (h0 : 128 ≤ r) (h1 : r ≤ 1114111) (hv : Utf8.valid (r : Int) = true) :
    Calls Tryd.prog 67 #[.string s, .int .i32 ↑r] w fun e w' => e = .returned (.int .i64 (-1)) ∧ Below w.heap.size w w' := by
  by_cases h : (r : Int) = 65533
  · rw [h]; exact idxRune_bad s w ha hs
  · exact idxRune_hi s r w ha hs (by omega) (by omega) hv h
theorem decode_most (s : ByteArray) (pos : Nat) (h : Utf8.valid ((Utf8.decode s pos).1 : Int) = true) : (Utf8.decode s pos).1 ≤ 1114111 := by
  rw [validRune_eq, validRune, decide_eq_true_iff] at h; omega
theorem NoAny_span {s chars : ByteArray} {i n : Nat} (h : Lib.NoAny s.data.toList chars.data.toList i) (ha : asciiL chars.data.toList) (hn : ∀ k, k < n → ∃ h : i + k < s.size, 128 ≤ (s[i + k]'h).toNat) : Lib.NoAny s.data.toList chars.data.toList (i + n) := by
  intro j b hj hb
  by_cases e : j < i
  · exact h j b e hb
  · obtain ⟨hlt, hge⟩ := hn (j - i) (by omega)
    refine ascii_no ha ?_
    have e2 : i + (j - i) = j := by omega
    have : s.data.toList[j]? = some (s[i + (j - i)]'hlt) := by
      rw [List.getElem?_eq_getElem (by rw [len_ba]; omega)]
      congr 1
      simp only [e2]
      rfl
    rw [this] at hb
    cases hb
    exact hge

set_option maxRecDepth 1000000 in
set_option maxHeartbeats 8000000 in
theorem idxAny_short (s chars : ByteArray) (w : World) (h2 : 2 ≤ chars.size) (hc8 : chars.size ≤ 1000) (h8 : s.size ≤ 8) (ha : asciiL chars.data.toList) :
    Calls Tryd.prog 55 #[.string s, .string chars] w fun e w' => e = .returned (.int .i64 (Lib.indexAny s.data.toList chars.data.toList)) ∧ Below w.heap.size w w' := by
  have HA := Lib.hid ha
  clear ha
  have hemp := str_ne (s := chars) (by omega)
  have hn1 : ((chars.size : Int) == 1) = false := beq_eq_false_iff_ne.2 (by omega)
  have h8z : decide ((8 : Int) < (s.size : Int)) = false := decide_eq_false (by omega)
  go_enter Tryd.func55, Tryd.ntmps55
  go_wp2_with (first | (go_at_call 68; refine (should_any _ _).mono ?_; rintro e w' ⟨rfl, rfl⟩; rw [h8z]))
  go_loopg [9, 10] s.size (fun g _ _ wx => ∃ i : Nat, i + g = s.size ∧ wx.heap[w.heap.size]? = some (.stringIter s i) ∧ Hid (Below w.heap.size w wx ∧ Lib.NoAny s.data.toList chars.data.toList i))
  case atStart => exact ⟨0, by omega, World.iter_heap _ _ _, (Below.refl _ _).alloc (Nat.le_refl _) _, Lib.NoAny.zero _ _⟩
  case round =>
    obtain ⟨i, hig, hk, HX⟩ := hrel
    by_cases hi : i < s.size
    · by_cases ha1 : (s[i]'hi).toNat < 128
      · have hnx := fun ty => Lib.run_next_ascii_at (P := Tryd.prog) wr w.heap.size s i ty hk hi ha1
        have hk2 := Lib.iterAt_heap wr w.heap.size s i (i + 1) hk
        have hb2 := Lib.below_iterAt HX.out.1 (Nat.le_refl _) s (i + 1)
        have hge : (0 : Int) ≤ (s[i].toNat : Int) := by omega
        have hlt : (s[i].toNat : Int) < 128 := by omega
        have hxl : s.data.toList[i]? = some s[i] := by rw [List.getElem?_eq_getElem (by rw [len_ba]; exact hi)]; rfl
        have hcon := Lib.contains_iff_indexByte chars.data.toList s[i]
        have hback : ((s[i].toNat : Int)).toNat.toUInt8 = s[i] := by simp
        have HK := Lib.hid (And.intro hk2 (And.intro hb2 hxl))
        clear hk hk2 hb2 hxl
        cases hin : chars.data.toList.contains s[i]
        · rw [hin] at hcon
          have hneg : Lib.indexByte chars.data.toList s[i] < 0 := by have := of_decide_eq_false hcon.symm; omega
          clear hcon
          have HIN := Lib.hid hin
          clear hin
          go_wp2_with (go_at_call 67; refine (idxRune_lo _ _ _ hge hlt).mono ?_; rintro e w' ⟨rfl, rfl⟩; rw [hback])
          go_roundg (s.size - (i + 1))
          case measure => omega
          case rel => exact ⟨i + 1, by omega, HK.out.1, HK.out.2.1, HX.out.2.succ HK.out.2.2 HIN.out⟩
        · rw [hin] at hcon
          have hneg : 0 ≤ Lib.indexByte chars.data.toList s[i] := of_decide_eq_true hcon.symm
          clear hcon
          have HIN := Lib.hid hin
          clear hin
          go_wp2_with (go_at_call 67; refine (idxRune_lo _ _ _ hge hlt).mono ?_; rintro e w' ⟨rfl, rfl⟩; rw [hback])
          go_ret
          exact ⟨ret_int (by rw [Lib.indexAny_hit HX.out.2 HK.out.2.2 HIN.out]), HK.out.2.1⟩
      · have ha2 : 128 ≤ (s[i]'hi).toNat := by omega
        have hspan := decode_span s i hi ha2
        obtain ⟨d1, d2⟩ := decode_high s i hi ha2
        have dv := decode_valid s i hi
        have dm := decode_most s i dv
        have hnx := fun ty => Lib.run_next_any_at (P := Tryd.prog) wr w.heap.size s i ty hk hi
        obtain ⟨⟨r, n⟩, hd⟩ : ∃ x, Utf8.decode s i = x := ⟨_, rfl⟩
        rw [hd] at hspan d1 d2 dv dm
        simp only [hd] at hnx
        simp only at hspan d1 d2 dv dm
        have hle : i + n ≤ s.size := by obtain ⟨h, _⟩ := hspan (n - 1) (by omega); omega
        have hk2 := Lib.iterAt_heap wr w.heap.size s i (i + n) hk
        have hb2 := Lib.below_iterAt HX.out.1 (Nat.le_refl _) s (i + n)
        have hna := NoAny_span HX.out.2 HA.out hspan
        have HK := Lib.hid (And.intro hk2 (And.intro hb2 hna))
        have DV := Lib.hid dv
        clear hk hk2 hb2 hna hspan dv hd ha1
        go_wp2_with (go_at_call 67; refine (idxRune_any _ _ _ HA.out hc8 d1 dm DV.out).mono ?_; rintro e w2 ⟨rfl, hw2⟩)
        go_roundg (s.size - (i + n))
        case measure => omega
        case rel =>
          refine ⟨i + n, by omega, ?_, ?_, HK.out.2.2⟩
          · rw [hw2.block _ (Array.getElem?_eq_some_iff.1 HK.out.1).1]; exact HK.out.1
          · exact HK.out.2.1.trans (hw2.mono (Nat.le_of_lt (Array.getElem?_eq_some_iff.1 HK.out.1).1))
    · obtain rfl : i = s.size := by omega
      have hnx := Lib.run_next_end_at (P := Tryd.prog) wr w.heap.size s s.size
      have hk3 := fun ty => hnx ty hk (by omega)
      clear hnx
      have HK := Lib.hid hk
      clear hk
      go_wp2_with fail
      go_ret
      exact ⟨ret_int (by rw [Lib.indexAny_none (by rw [len_ba]; exact HX.out.2)]), HX.out.1⟩
end Go.Proofs.YtmoioihclnpcbaaDoor
