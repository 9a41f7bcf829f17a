/- glob.Cut and the answers' Cut: one answer; whole masks, as mathematics. -/
import Derived.Test.YtoaimmojnmgelaaDoorGlobH
namespace Go.Proofs.YtoaimmojnmgelaaDoor
open Go.RowKit

/-- a whole mask and its parts -/
def Whole (l n u h : List UInt8) : Prop := l = n ++ 33 :: (u ++ 64 :: h) ∧ n ≠ [] ∧ u ≠ [] ∧ h ≠ [] ∧ 33 ∉ n ∧ 64 ∉ n ∧ 64 ∉ u

theorem idx_app {n r : List UInt8} {c : UInt8} (h : c ∉ n) : Lib.indexByte (n ++ c :: r) c = n.length := by
  refine idx_of (by simp) fun j hj e => ?_
  rw [List.getElem?_append_left hj] at e
  exact h (List.mem_of_getElem? e)
theorem idx_split {l : List UInt8} {c : UInt8} {b : Nat} (h : Lib.indexByte l c = b) : l = l.take b ++ c :: l.drop (b + 1) ∧ c ∉ l.take b := by
  have hb := idx_lt h
  have ⟨h1, h2⟩ := Lib.indexByte_some h
  constructor
  · have e : l[b] = c := by
      have := List.getElem?_eq_getElem hb
      rw [this] at h1; exact Option.some.inj h1
    conv => lhs; rw [← List.take_append_drop b l, List.drop_eq_getElem_cons hb, e]
  · intro hm
    have := contains_take_no (l := l) (c := c) (b := b) h2
    rw [Bool.eq_false_iff, ne_eq, List.contains_iff_mem] at this
    exact this hm
theorem whole_idx {l n u h : List UInt8} (H : Whole l n u h) : Lib.indexByte l 33 = n.length := by
  rw [H.1]; exact idx_app H.2.2.2.2.1
theorem whole_rest {l n u h : List UInt8} (H : Whole l n u h) : l.drop (n.length + 1) = u ++ 64 :: h := by
  rw [H.1, List.drop_append]; simp
theorem whole_idx2 {l n u h : List UInt8} (H : Whole l n u h) : Lib.indexByte (l.drop (n.length + 1)) 64 = u.length := by
  rw [whole_rest H]; exact idx_app H.2.2.2.2.2.2
theorem whole_of {l : List UInt8} {b o : Nat} (hb : Lib.indexByte l 33 = b) (ho : Lib.indexByte (l.drop (b + 1)) 64 = o) (h1 : 64 ∉ l.take b) (h2 : l.take b ≠ []) (h3 : (l.drop (b + 1)).take o ≠ []) (h4 : (l.drop (b + 1)).drop (o + 1) ≠ []) :
    Whole l (l.take b) ((l.drop (b + 1)).take o) ((l.drop (b + 1)).drop (o + 1)) := by
  have ⟨e1, e2⟩ := idx_split hb
  have ⟨e3, e4⟩ := idx_split ho
  refine ⟨?_, h2, h3, h4, e2, h1, e4⟩
  rw [← e3]; exact e1

/-- what a mask is cut into -/
def cutV (s : ByteArray) : Value :=
  if Lib.indexByte s.data.toList 33 = -1 then noCut
  else if Lib.indexByte (s.data.toList.drop ((Lib.indexByte s.data.toList 33).toNat + 1)) 64 = -1 then noCut
  else gV s (Lib.indexByte s.data.toList 33).toNat (Lib.indexByte (s.data.toList.drop ((Lib.indexByte s.data.toList 33).toNat + 1)) 64).toNat
theorem cutV_n {s : ByteArray} (h : Lib.indexByte s.data.toList 33 = -1) : cutV s = noCut := by unfold cutV; rw [if_pos h]
theorem cutV_m {s : ByteArray} {b : Nat} (h : Lib.indexByte s.data.toList 33 = b) (h2 : Lib.indexByte (s.data.toList.drop (b + 1)) 64 = -1) : cutV s = noCut := by
  unfold cutV; rw [if_neg (by omega), h, if_pos (by simpa using h2)]
theorem cutV_y {s : ByteArray} {b o : Nat} (h : Lib.indexByte s.data.toList 33 = b) (h2 : Lib.indexByte (s.data.toList.drop (b + 1)) 64 = o) : cutV s = gV s b o := by
  unfold cutV; rw [if_neg (by omega), h, Int.toNat_natCast, if_neg (by omega), h2, Int.toNat_natCast]

theorem ex_nil {s : ByteArray} : (s.toList = []) ↔ s.data.toList = [] := by rw [ByteArray.toList_eq]
theorem gV_data (s : ByteArray) (b o : Nat) : gV s b o = if (64 ∈ s.data.toList.take b) ∨ s.data.toList.take b = [] ∨ (s.data.toList.drop (b + 1)).take o = [] ∨ (s.data.toList.drop (b + 1)).drop (o + 1) = [] then noCut else .tuple #[.string (bs (s.data.toList.take b)), .string (bs ((s.data.toList.drop (b + 1)).take o)), .string (bs ((s.data.toList.drop (b + 1)).drop (o + 1))), .bool true] := by
  have e1 : (s.extract 0 b).data.toList = s.data.toList.take b := ba_extract0 _ _
  have e2 : ((s.extract (b + 1) s.size).extract 0 o).data.toList = (s.data.toList.drop (b + 1)).take o := by rw [ba_extract0, ba_extract_to]
  have e3 : ((s.extract (b + 1) s.size).extract (o + 1) (s.size - (b + 1))).data.toList = (s.data.toList.drop (b + 1)).drop (o + 1) := by
    have := ba_extract_to (s.extract (b + 1) s.size) (o + 1)
    rw [show (s.extract (b + 1) s.size).size = s.size - (b + 1) from by simp [ByteArray.size_extract]] at this
    rw [this, ba_extract_to]
  unfold gV
  simp only [ex_nil, e1, e2, e3]
  rw [show s.extract 0 b = bs (s.data.toList.take b) from ba_ext (by rw [e1]; simp), show (s.extract (b + 1) s.size).extract 0 o = bs ((s.data.toList.drop (b + 1)).take o) from ba_ext (by rw [e2]; simp), show (s.extract (b + 1) s.size).extract (o + 1) (s.size - (b + 1)) = bs ((s.data.toList.drop (b + 1)).drop (o + 1)) from ba_ext (by rw [e3]; simp)]

theorem cutV_yes {s : ByteArray} {n u h : List UInt8} (H : Whole s.data.toList n u h) : cutV s = .tuple #[.string (bs n), .string (bs u), .string (bs h), .bool true] := by
  rw [cutV_y (whole_idx H) (whole_idx2 H), gV_data]
  have e1 : s.data.toList.take n.length = n := by rw [H.1]; simp
  rw [whole_rest H, e1, List.take_left, show (u ++ 64 :: h).drop (u.length + 1) = h from by rw [List.drop_append]; simp]
  rw [if_neg]
  rintro (h1 | h1 | h1 | h1)
  · exact H.2.2.2.2.2.1 h1
  · exact H.2.1 h1
  · exact H.2.2.1 h1
  · exact H.2.2.2.1 h1
theorem cutV_no {s : ByteArray} (H : ¬ ∃ n u h, Whole s.data.toList n u h) : cutV s = noCut := by
  rcases idx_cases s.data.toList 33 with hb | ⟨b, hb⟩
  · exact cutV_n hb
  · rcases idx_cases (s.data.toList.drop (b + 1)) 64 with ho | ⟨o, ho⟩
    · exact cutV_m hb ho
    · rw [cutV_y hb ho, gV_data]
      by_cases h1 : (64 ∈ s.data.toList.take b) ∨ s.data.toList.take b = [] ∨ (s.data.toList.drop (b + 1)).take o = [] ∨ (s.data.toList.drop (b + 1)).drop (o + 1) = []
      · rw [if_pos h1]
      · exfalso
        simp only [not_or] at h1
        exact H ⟨_, _, _, whole_of hb ho h1.1 h1.2.1 h1.2.2.1 h1.2.2.2⟩

theorem gcut_any (s : ByteArray) (w : World) (hs : s.size ≤ 1000000) :
    Calls Tryd.prog 37 #[.string s] w fun e w' => e = .returned (cutV s) ∧ ∃ n, w' = w.drewN n := by
  rcases idx_cases s.data.toList 33 with hb | ⟨b, hb⟩
  · rw [cutV_n hb]; exact gcut_n s w hs hb
  · rcases idx_cases (s.data.toList.drop (b + 1)) 64 with ho | ⟨o, ho⟩
    · rw [cutV_m hb ho]; exact gcut_m s b w hs hb (by rw [ba_extract_to]; exact ho)
    · rw [cutV_y hb ho]; exact gcut_y s b o w hs hb (by rw [ba_extract_to]; exact ho)
theorem drew_of_same {P : Program} {f : Nat} {args : Array Value} {w : World} {v : Value} (h : Calls P f args w fun e w' => e = .returned v ∧ w = w') : Calls P f args w fun e w' => e = .returned v ∧ ∃ n, w' = w.drewN n :=
  h.mono fun _ _ ⟨h1, h2⟩ => ⟨h1, 0, h2.symm⟩
theorem rcut_any (s : ByteArray) (w : World) (hs : s.size ≤ 1000000) :
    Calls Tryd.prog 38 #[.string s] w fun e w' => e = .returned (cutV s) ∧ ∃ n, w' = w.drewN n := by
  rcases idx_cases s.data.toList 33 with hb | ⟨b, hb⟩
  · rw [cutV_n hb]; exact drew_of_same (rcut_n s w hs _ (by omega) hb)
  · have hbl := idx_lt hb
    rw [len_ba] at hbl
    have h33 : s[b] = 33 := by
      have := (Lib.indexByte_some hb).1
      rw [List.getElem?_eq_getElem (by simpa using hbl)] at this
      exact Option.some.inj this
    have hix : ixFrom s.data.toList 64 b = ixFrom s.data.toList 64 (b + 1) := ixFrom_next hbl (by rw [h33]; decide)
    rcases idx_cases (s.data.toList.drop (b + 1)) 64 with ho | ⟨o, ho⟩
    · rw [cutV_m hb ho]
      by_cases h1 : b < 1
      · exact drew_of_same (rcut_n s w hs _ (by omega) hb)
      · exact drew_of_same (rcut_m s b (-1) w hs (by omega) hb (by rw [hix]; unfold ixFrom; rw [if_pos ho]) (.inl (by omega)))
    · have hv : ixFrom s.data.toList 64 b = ((b + 1 + o : Nat) : Int) := by rw [hix]; unfold ixFrom; rw [if_neg (by omega), ho]; push_cast; omega
      have hol := idx_lt ho
      rw [List.length_drop, len_ba] at hol
      rw [cutV_y hb ho, gV_data]
      by_cases h1 : b < 1
      · rw [if_pos (.inr (.inl (by rw [show b = 0 by omega]; rfl)))]
        exact drew_of_same (rcut_n s w hs _ (by omega) hb)
      by_cases h2 : o = 0
      · rw [if_pos (.inr (.inr (.inl (by rw [h2]; rfl))))]
        exact drew_of_same (rcut_m s b _ w hs (by omega) hb hv (.inl (by omega)))
      by_cases h3 : b + 1 + o + 1 = s.size
      · rw [if_pos (.inr (.inr (.inr (by rw [List.drop_drop, List.drop_of_length_le (by rw [len_ba]; omega)]))))]
        exact drew_of_same (rcut_m s b _ w hs (by omega) hb hv (.inr (by omega)))
      · obtain ⟨v, hv2⟩ : ∃ v, Lib.indexByte (s.extract 0 b).data.toList 64 = v := ⟨_, rfl⟩
        have := rcut_y s b (b + 1 + o) v w hs (by omega) hb hv (by omega) (by omega) hv2
        rw [ba_extract0] at hv2
        have e : (64 ∈ s.data.toList.take b) ↔ 0 ≤ v := by
          rw [← List.contains_iff_mem, Lib.contains_iff_indexByte, hv2, decide_eq_true_iff]
        have n1 : ¬ s.data.toList.take b = [] := by intro h; have := congrArg List.length h; rw [List.length_take, len_ba, List.length_nil] at this; omega
        have n2 : ¬ (s.data.toList.drop (b + 1)).take o = [] := by intro h; have := congrArg List.length h; rw [List.length_take, List.length_drop, len_ba, List.length_nil] at this; omega
        have n3 : ¬ (s.data.toList.drop (b + 1)).drop (o + 1) = [] := by intro h; have := congrArg List.length h; rw [List.length_drop, List.length_drop, len_ba, List.length_nil] at this; omega
        rw [show s.extract 0 b = bs (s.data.toList.take b) from ba_ext (by rw [ba_extract0]; simp), show s.extract (b + 1) (b + 1 + o) = bs ((s.data.toList.drop (b + 1)).take o) from ba_ext (by rw [Lib.extract_data]; simp), show s.extract (b + 1 + o + 1) s.size = bs ((s.data.toList.drop (b + 1)).drop (o + 1)) from ba_ext (by rw [ba_extract_to, List.drop_drop]; simp; congr 1; try omega)] at this
        by_cases h4 : 0 ≤ v
        · rw [if_pos (.inl (e.2 h4))]
          rw [if_pos h4] at this
          exact this
        · rw [if_neg (by rintro (h | h | h | h) <;> first | exact h4 (e.1 h) | contradiction)]
          rw [if_neg h4] at this
          exact this

/-! what is made a whole one is one, and stays -/
theorem starL_ne (l : List UInt8) : starL l ≠ [] := by
  unfold starL
  split
  · simp
  · intro h; subst h; simp at *
theorem starL_of {l : List UInt8} (h : l ≠ []) : starL l = l := by
  unfold starL
  rw [if_neg (by intro e; exact h (List.length_eq_zero_iff.1 e))]
theorem starL_mem {l : List UInt8} {c : UInt8} (hc : c ≠ 42) (h : c ∉ l) : c ∉ starL l := by
  unfold starL
  split
  · simpa using hc
  · exact h
theorem join_whole {n u h : List UInt8} (h1 : 33 ∉ n) (h2 : 64 ∉ n) (h3 : 64 ∉ u) : Whole (joinL n u h) (starL n) (starL u) (starL h) := by
  refine ⟨by unfold joinL; simp, starL_ne _, starL_ne _, starL_ne _, starL_mem (by decide) h1, starL_mem (by decide) h2, starL_mem (by decide) h3⟩
theorem whole_comp {s : ByteArray} {n u h : List UInt8} (H : Whole s.data.toList n u h) : compS s = s.data.toList := by
  have hb := whole_idx H
  have ho := whole_idx2 H
  have hbl := idx_lt hb
  have hj : joinL n u h = s.data.toList := by unfold joinL; rw [starL_of H.2.1, starL_of H.2.2.1, starL_of H.2.2.2.1, H.1]; simp
  have ha : Lib.indexByte s.data.toList 64 = ((n.length + 1 + u.length : Nat) : Int) := by
    refine idx_of ?_ fun j hj e => ?_
    · rw [H.1, List.getElem?_append_right (by omega)]
      rw [show n.length + 1 + u.length - n.length = u.length + 1 by omega, List.getElem?_cons_succ]
      simp
    · rw [H.1] at e
      by_cases h1 : j < n.length
      · rw [List.getElem?_append_left h1] at e
        exact H.2.2.2.2.2.1 (List.mem_of_getElem? e)
      · rw [List.getElem?_append_right (by omega)] at e
        by_cases h2 : j = n.length
        · rw [h2] at e; simp at e
        · rw [show j - n.length = (j - n.length - 1) + 1 by omega, List.getElem?_cons_succ, List.getElem?_append_left (by omega)] at e
          exact H.2.2.2.2.2.2 (List.mem_of_getElem? e)
  unfold compS
  rw [ha, hb]
  simp only []
  rw [if_neg (by omega), if_neg (by omega)]
  simp only [Int.toNat_natCast]
  rw [← hj]
  congr 1
  · rw [ba_extract0, H.1]; simp
  · rw [Lib.extract_data, show n.length + 1 + u.length - (n.length + 1) = u.length by omega, whole_rest H]; simp
  · rw [ba_extract_to, show n.length + 1 + u.length + 1 = (n.length + 1) + (u.length + 1) by omega, ← List.drop_drop, whole_rest H, List.drop_append]; simp
theorem not_mem_take {l : List UInt8} {c : UInt8} {k : Nat} (h : ∀ j, j < k → l[j]? ≠ some c) : c ∉ l.take k := by
  have := contains_take_no h
  rw [Bool.eq_false_iff, ne_eq, List.contains_iff_mem] at this
  exact this
theorem not_mem_all {l : List UInt8} {c : UInt8} (h : Lib.indexByte l c = -1) : c ∉ l := by
  have := contains_none h
  rw [Bool.eq_false_iff, ne_eq, List.contains_iff_mem] at this
  exact this
theorem comp_whole (s : ByteArray) : ∃ n u h, Whole (compS s) n u h := by
  unfold compS
  simp only []
  rcases idx_cases s.data.toList 64 with ha | ⟨a, ha⟩
  · rw [if_pos ha]
    have n64 := not_mem_all ha
    rcases idx_cases s.data.toList 33 with hb | ⟨b, hb⟩
    · rw [if_pos hb]
      exact ⟨_, _, _, join_whole (not_mem_all hb) n64 (by simp)⟩
    · rw [if_neg (by omega), hb, Int.toNat_natCast]
      refine ⟨_, _, _, join_whole ?_ ?_ ?_⟩
      · rw [ba_extract0]; exact (idx_split hb).2
      · rw [ba_extract0]; exact fun h => n64 (List.mem_of_mem_take h)
      · rw [ba_extract_to]; exact fun h => n64 (List.mem_of_mem_drop h)
  · rw [if_neg (by omega)]
    have h2 := (Lib.indexByte_some ha).2
    by_cases hc : Lib.indexByte s.data.toList 33 = -1 ∨ Lib.indexByte s.data.toList 64 < Lib.indexByte s.data.toList 33
    · rw [if_pos hc, ha, Int.toNat_natCast]
      refine ⟨_, _, _, join_whole (by simp) (by simp) ?_⟩
      rw [ba_extract0]; exact not_mem_take h2
    · rw [if_neg hc]
      rcases idx_cases s.data.toList 33 with hb | ⟨b, hb⟩
      · exact absurd (.inl hb) hc
      · rw [ha, hb] at hc
        rw [ha, hb, Int.toNat_natCast, Int.toNat_natCast]
        have hba : b ≤ a := by omega
        refine ⟨_, _, _, join_whole ?_ ?_ ?_⟩
        · rw [ba_extract0]; exact (idx_split hb).2
        · rw [ba_extract0]; exact not_mem_take fun j hj => h2 j (by omega)
        · rw [Lib.extract_data]
          refine not_mem_take fun j hj => ?_
          rw [List.getElem?_drop]
          exact h2 _ (by omega)
end Go.Proofs.YtoaimmojnmgelaaDoor
