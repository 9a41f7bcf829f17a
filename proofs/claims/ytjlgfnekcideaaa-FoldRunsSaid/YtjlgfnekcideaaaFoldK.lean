/- Layer 1's laws on texts: walked from the contracts. -/
import Derived.Test.YtjlgfnekcideaaaFoldJ
import Derived.Test.YtjlgfnekcideaaaFoldL
namespace Go.Proofs.Ytjlgfnekcideaaa
open Go.RowKit

theorem bnext {w w1 w2 : World} (h : Below w.heap.size w w1) (k : Below w1.heap.size w1 w2) : Below w.heap.size w w2 := h.trans (k.mono h.size)

theorem foldL_idem (l : List UInt8) : foldL (foldL l) = foldL l := by
  unfold foldL
  rw [List.map_map]
  congr 1
  funext b
  exact foldB_idem b

theorem texts_law (s : ByteArray) (hs : s.size ≤ maxLen) (w : World) : Calls Try.prog 3 #[.string s] w fun e w' => e = .returned (.bool true) ∧ Below w.heap.size w w' := by
  unfold maxLen at hs
  by_cases h : s.size ≤ 200
  · have h2 : ¬ (200 : Int) < s.size := by omega
    have hs1 : s.size ≤ 1000000 := by omega
    have hf := foldL_idem s.data.toList
    have Hf := Lib.hid hf
    have hsm : sameF s.data.toList (foldL s.data.toList) = true := sameF_iff.2 (by rw [hf])
    have Hsm := Lib.hid hsm
    clear hf hsm
    have hsz : (bs (foldL s.data.toList)).size ≤ 1000000 := by simp; omega
    go_enter Try.func3, Try.ntmps3
    go_wp2_with fail
    refine (awake01 _).mono ?_
    rintro e w1 ⟨rfl, hb1⟩
    go_wp2_with fail
    refine (text_any _ _ hs1).mono ?_
    rintro e w2 ⟨rfl, hb2⟩
    go_wp2_with fail
    refine (reftext _ _ hs1).mono ?_
    rintro e w3 ⟨rfl, hb3⟩
    go_wp2_with fail
    refine (text_any _ _ hsz).mono ?_
    rintro e w4 ⟨rfl, hb4⟩
    rw [bs_toList, Hf.out]
    go_wp2_with fail
    refine (same_any _ _ _ hs1 hsz).mono ?_
    rintro e w5 ⟨rfl, n, rfl⟩
    rw [bs_toList, Hsm.out]
    go_wp2_with fail
    go_ret
    have z1 := hb1.size
    have z2 := hb2.size
    have z3 := hb3.size
    exact ⟨rfl, below_dn (hb1.trans ((hb2.mono z1).trans ((hb3.mono (by omega)).trans (hb4.mono (by omega))))) _⟩
  · have h2 : (200 : Int) < s.size := by omega
    go_enter Try.func3, Try.ntmps3
    go_wp2_with fail
    refine (awake01 _).mono ?_
    rintro e w1 ⟨rfl, hb1⟩
    go_wp2_with fail
    go_ret
    exact ⟨rfl, hb1⟩

set_option maxHeartbeats 400000 in
theorem compares_walk (a b : ByteArray) (ha : a.size ≤ 100) (hb : b.size ≤ 100) (w : World) : Calls Try.prog 4 #[.string a, .string b] w fun e w' => e = .returned (.bool true) ∧ Below w.heap.size w w' := by
  have ha1 : a.size ≤ 1000000 := by omega
  have hb1 : b.size ≤ 1000000 := by omega
  have hA : decide ((100 : Int) < (a.size : Int)) = false := by simp; omega
  have hB : decide ((100 : Int) < (b.size : Int)) = false := by simp; omega
  by_cases h : b.size < a.size
  · have hx : (a.extract 0 b.size).size ≤ 1000000 := by simp; omega
    have ht : (a.extract 0 b.size).data.toList = a.data.toList.take b.size := ba_extract0 a b.size
    have Ht := Lib.hid ht
    clear ht
    go_enter Try.func4, Try.ntmps4
    go_wp2_with fail
    refine (awake01 _).mono ?_
    rintro e w1 ⟨rfl, q1⟩
    go_wp2_with fail
    refine (refsame _ _ _ hx hb1).mono ?_
    rintro e w2 ⟨rfl, q2⟩
    rw [Ht.out]
    have q := bnext q1 q2
    clear q1 q2
    go_wp2_with fail
    refine (compare_any _ _ _ ha1 hb1).mono ?_
    rintro e w3 ⟨rfl, n3, rfl⟩
    go_wp2_with fail
    refine (refcompare _ _ _ ha1 hb1).mono ?_
    rintro e w4 ⟨rfl, q4⟩
    have q := bnext (below_dn q _) q4
    clear q4
    go_wp2_with fail
    refine (same_any _ _ _ ha1 hb1).mono ?_
    rintro e w5 ⟨rfl, n5, rfl⟩
    go_wp2_with fail
    refine (refsame _ _ _ ha1 hb1).mono ?_
    rintro e w6 ⟨rfl, q6⟩
    have q := bnext (below_dn q _) q6
    clear q6
    go_wp2_with fail
    refine (prefix_any _ _ _ ha1 hb1).mono ?_
    rintro e w7 ⟨rfl, n7, rfl⟩
    go_wp2_with fail
    go_ret
    exact ⟨by simp, below_dn q _⟩
  · by_cases h4 : a.size = b.size
    · have ht : a.data.toList.take b.size = a.data.toList := by rw [← h4]; exact List.take_of_length_le (by simp)
      have Ht := Lib.hid ht
      have h5 : a.size ≤ b.size := by omega
      have h6 : b.size ≤ a.size := by omega
      clear ht h4
      go_enter Try.func4, Try.ntmps4
      go_wp2_with fail
      refine (awake01 _).mono ?_
      rintro e w1 ⟨rfl, q1⟩
      go_wp2_with fail
      refine (refsame _ _ _ ha1 hb1).mono ?_
      rintro e w2 ⟨rfl, q2⟩
      have q := bnext q1 q2
      clear q1 q2
      go_wp2_with fail
      refine (compare_any _ _ _ ha1 hb1).mono ?_
      rintro e w3 ⟨rfl, n3, rfl⟩
      go_wp2_with fail
      refine (refcompare _ _ _ ha1 hb1).mono ?_
      rintro e w4 ⟨rfl, q4⟩
      have q := bnext (below_dn q _) q4
      clear q4
      go_wp2_with fail
      refine (same_any _ _ _ ha1 hb1).mono ?_
      rintro e w5 ⟨rfl, n5, rfl⟩
      go_wp2_with fail
      refine (refsame _ _ _ ha1 hb1).mono ?_
      rintro e w6 ⟨rfl, q6⟩
      have q := bnext (below_dn q _) q6
      clear q6
      go_wp2_with fail
      refine (prefix_any _ _ _ ha1 hb1).mono ?_
      rintro e w7 ⟨rfl, n7, rfl⟩
      rw [Ht.out]
      go_wp2_with fail
      go_ret
      exact ⟨by simp, below_dn q _⟩
    · have hs := sameF_len (a := a.data.toList.take b.size) (b := b.data.toList) (by simp; omega)
      have Hs := Lib.hid hs
      clear hs
      go_enter Try.func4, Try.ntmps4
      go_wp2_with fail
      refine (awake01 _).mono ?_
      rintro e w1 ⟨rfl, q⟩
      go_wp2_with fail
      refine (compare_any _ _ _ ha1 hb1).mono ?_
      rintro e w3 ⟨rfl, n3, rfl⟩
      go_wp2_with fail
      refine (refcompare _ _ _ ha1 hb1).mono ?_
      rintro e w4 ⟨rfl, q4⟩
      have q := bnext (below_dn q _) q4
      clear q4
      go_wp2_with fail
      refine (same_any _ _ _ ha1 hb1).mono ?_
      rintro e w5 ⟨rfl, n5, rfl⟩
      go_wp2_with fail
      refine (refsame _ _ _ ha1 hb1).mono ?_
      rintro e w6 ⟨rfl, q6⟩
      have q := bnext (below_dn q _) q6
      clear q6
      go_wp2_with fail
      refine (prefix_any _ _ _ ha1 hb1).mono ?_
      rintro e w7 ⟨rfl, n7, rfl⟩
      rw [Hs.out]
      go_wp2_with fail
      go_ret
      exact ⟨by simp, below_dn q _⟩
theorem compares_law (a b : ByteArray) (ha : a.size ≤ maxLen) (hb : b.size ≤ maxLen) (w : World) : Calls Try.prog 4 #[.string a, .string b] w fun e w' => e = .returned (.bool true) ∧ Below w.heap.size w w' := by
  unfold maxLen at ha hb
  by_cases h : a.size ≤ 100
  · by_cases h2 : b.size ≤ 100
    · exact compares_walk a b h h2 w
    · go_enter Try.func4, Try.ntmps4
      go_wp2_with fail
      refine (awake01 _).mono ?_
      rintro e w1 ⟨rfl, hb1⟩
      go_wp2_with fail
      go_ret
      exact ⟨rfl, hb1⟩
  · go_enter Try.func4, Try.ntmps4
    go_wp2_with fail
    refine (awake01 _).mono ?_
    rintro e w1 ⟨rfl, hb1⟩
    go_wp2_with fail
    go_ret
    exact ⟨rfl, hb1⟩
end Go.Proofs.Ytjlgfnekcideaaa
