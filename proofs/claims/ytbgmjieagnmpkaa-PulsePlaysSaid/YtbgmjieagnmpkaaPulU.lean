/- Layer 16: what is due, by the document: its row, one more put in at its place. -/
import Derived.Test.YtbgmjieagnmpkaaPulT
namespace Go.Proofs.Ytbgmjieagnmpkaa
set_option linter.unusedVariables false
set_option linter.unusedSimpArgs false
open Go Go.RowKit Go.Maps Go.Sort Go.Shelf Go.Lib

theorem Try.infoW : (Try.prog.info? 83).map (fun i => (i.zero, i.size, i.bytes)) = some (some (.agg #[.int .i64 0, .int .i64 0]), 2, 16) := by kernel_rfl
/-- a row of the document's rows, of the call's own -/
def OwnW (base : Nat) (W : World) (v : Value) (xs : List (Int × Int)) : Prop := W.ownsRow base 83 2 v xs.length (xs.flatMap encD)
theorem ownW_nil (base : Nat) (w : World) : OwnW base w (.slice none 0 0) [] := World.ownsRow_nil _ _ _ _
theorem ownW_kept {base : Nat} {w W : World} {v : Value} {xs : List (Int × Int)} (h : OwnW base w v xs) (hs : ∀ g, v.ownBlock = some g → W.heap[g]? = w.heap[g]?) : OwnW base W v xs := row_same h hs
theorem ownW_of {base : Nat} {W : World} {v : Value} {xs : List (Int × Int)} {n : Nat} {cs : List Value} (h : W.ownsRow base 83 2 v n cs) (hn : n = xs.length) (hc : cs = xs.flatMap encD) : OwnW base W v xs := by
  subst hn; subst hc; exact h
theorem encD_len (T : List (Int × Int)) : (T.flatMap encD).length = T.length * 2 := by
  induction T with
  | nil => rfl
  | cons a r ih => rw [List.flatMap_cons, List.length_append, ih, List.length_cons]; simp [encD]; omega
theorem encD_one (T : List (Int × Int)) : ∀ u ∈ T.flatMap encD, u.oneCell' = true := by
  intro u hu
  obtain ⟨p, _, hp⟩ := List.mem_flatMap.1 hu
  simp only [encD, List.mem_cons, List.not_mem_nil, or_false] at hp
  rcases hp with rfl | rfl <;> rfl
theorem readsW {base : Nat} {w : World} {A : Option Addr} {n c : Nat} {xs : List (Int × Int)} (h : OwnW base w (.slice A n c) xs) : ReadsD w A xs := fun h0 => by
  have h' := h
  rcases h.2 with ⟨h1, h2⟩ | ⟨g, cap, cur, h1, h3, h4, h5, _, h6, h7⟩
  · omega
  · injection h1 with q1 q2 q3
    subst q1
    have key : ∀ t u, (xs.flatMap encD)[t]? = some u → w.cell? ⟨g, 0 + t, none⟩ = some u := fun t u ht => by
      have := h'.cells (g := g) rfl t u ht
      rwa [add_any] at this
    refine ⟨g, 0, rfl, blk_lt h4, fun j hj => ⟨key (j * 2) _ ?_, ?_⟩⟩
    · rw [flatMap_get encD 2 (fun _ => rfl) (by decide) xs (j * 2) (by omega), Nat.mul_div_cancel j (by decide), Nat.mul_mod_left]
      simp [List.getD, hj, encD]
    · have := key (j * 2 + 1) (.int .i64 xs[j].2) (by
        rw [flatMap_get encD 2 (fun _ => rfl) (by decide) xs (j * 2 + 1) (by omega), show (j * 2 + 1) / 2 = j by omega, show (j * 2 + 1) % 2 = 1 by omega]
        simp [List.getD, hj, encD])
      exact this
/-- a row cut in two -/
theorem slice_rows {base : Nat} {W : World} {A : Option Addr} {c : Nat} {R : List (Int × Int)} (h : OwnW base W (.slice A R.length c) R) {a : Nat} (ha : a ≤ R.length) :
    ∃ A1 c1 A2 c2, (∀ V, (Instr.slice 70 (.slice A R.length c) none (some (.int .i64 a)) none).run Try.prog V = .ok (.slice A1 a c1) V) ∧ (∀ V, (Instr.slice 70 (.slice A R.length c) (some (.int .i64 a)) none none).run Try.prog V = .ok (.slice A2 (R.length - a) c2) V) ∧
      ∀ V, (∀ g, (Value.slice A R.length c).ownBlock = some g → V.heap[g]? = W.heap[g]?) → Src Try.prog 2 70 (.slice A1 a c1) a ((R.take a).flatMap encD) V ∧ Src Try.prog 2 70 (.slice A2 (R.length - a) c2) (R.length - a) ((R.drop a).flatMap encD) V := by
  have hu : Try.prog.underlying 70 = some (.slice (Try.prog.elem 70)) := by kernel_rfl
  obtain ⟨i0, hi0, _, hz1, _⟩ := info_parts Try.infoW
  have hT : ((a : Int)).toNat = a := by omega
  have h' := h
  rcases h.2 with ⟨h1, h2⟩ | ⟨g, cap, cur, h1, hb, hg, hn, hm, hs, ht⟩
  · injection h1 with q1 q2 q3
    have h3 : R = [] := List.length_eq_zero_iff.1 h2
    subst h3
    obtain rfl : a = 0 := by simpa using ha
    subst q1
    subst q3
    refine ⟨none, 0, none, 0, fun V => ?_, fun V => ?_, fun V _ => ⟨?_, ?_⟩⟩
    · rw [run_slice_h V 70 _ _ _ hu _ _ (by omega) (by omega)]
      simp [sliced, sizeOf, hi0, hz1, go_sem, typeInfo]
    · rw [run_slice_l V 70 _ _ _ hu _ _ (by omega) (by omega)]
      simp [sliced, sizeOf, hi0, hz1, go_sem, typeInfo]
    · exact Src.ofNil V Try.underlying70 0
    · exact Src.ofNil V Try.underlying70 0
  · injection h1 with q1 q2 q3
    subst q1
    subst q3
    have hcell : ∀ (V : World), V.heap[g]? = W.heap[g]? → ∀ j u, (R.flatMap encD)[j]? = some u → V.cell? ⟨g, 0 + j, none⟩ = some u := fun V hV j u hu => by
      have e1 := h'.cells (g := g) rfl j u hu
      rw [add_any] at e1
      rw [World.cell?_of_block (w := W) (w' := V) (a := ⟨g, 0 + j, none⟩) hV]
      exact e1
    have hsp : R.flatMap encD = (R.take a).flatMap encD ++ (R.drop a).flatMap encD := by rw [← List.flatMap_append, List.take_append_drop]
    have l1 : ((R.take a).flatMap encD).length = a * 2 := by rw [encD_len, List.length_take]; omega
    have l3 : ((R.drop a).flatMap encD).length = (R.length - a) * 2 := by rw [encD_len, List.length_drop]
    have src1 : ∀ V, V.heap[g]? = W.heap[g]? → Src Try.prog 2 70 (.slice (some ⟨g, 0, none⟩) a c) a ((R.take a).flatMap encD) V := fun V hV =>
      Src.ofSlice V Try.underlying70 ⟨g, 0, none⟩ a c _ l1 (fun j u hu => by
        rw [add_any]
        refine hcell V hV j u ?_
        rw [hsp, List.getElem?_append_left (by have := (List.getElem?_eq_some_iff.1 hu).1; omega)]
        exact hu) (encD_one _)
    by_cases hc : c = a
    · have hd : R.drop a = [] := List.drop_eq_nil_of_le (by omega)
      have hl0 : R.length - a = 0 := by omega
      refine ⟨some ⟨g, 0, none⟩, c, some ⟨g, 0, none⟩, 0, fun V => ?_, fun V => ?_, fun V hV => ⟨src1 V (hV g rfl), ?_⟩⟩
      · rw [run_slice_h V 70 _ _ _ hu _ _ (by omega) (by omega)]
        by_cases h0 : c = 0
        · simp [sliced, sizeOf, hi0, hz1, go_sem, typeInfo, h0] <;> omega
        · simp [sliced, sizeOf, hi0, hz1, go_sem, typeInfo, h0, add_any]
      · rw [run_slice_l V 70 _ _ _ hu _ _ (by omega) (by omega)]
        simp [sliced, sizeOf, hi0, hz1, go_sem, typeInfo, hc]
      · rw [hd, hl0]
        exact Src.ofSlice V Try.underlying70 ⟨g, 0, none⟩ 0 0 _ (by simp) (fun j u hu => by simp at hu) (by simp)
    · refine ⟨some ⟨g, 0, none⟩, c, some ⟨g, a * 2, none⟩, c - a, fun V => ?_, fun V => ?_, fun V hV => ⟨src1 V (hV g rfl), ?_⟩⟩
      · rw [run_slice_h V 70 _ _ _ hu _ _ (by omega) (by omega)]
        by_cases h0 : c = 0
        · omega
        · simp [sliced, sizeOf, hi0, hz1, go_sem, typeInfo, h0, add_any]
      · rw [run_slice_l V 70 _ _ _ hu _ _ (by omega) (by omega)]
        simp [sliced, sizeOf, hi0, hz1, go_sem, typeInfo, hc, add_any]
      · refine Src.ofSlice V Try.underlying70 ⟨g, a * 2, none⟩ _ _ _ l3 (fun j u hu => ?_) (encD_one _)
        rw [add_any]
        have := hcell V (hV g rfl) (a * 2 + j) u (by rw [hsp, List.getElem?_append_right (by omega), l1, Nat.add_sub_cancel_left]; exact hu)
        rwa [Nat.zero_add] at this
section
variable {pg gr rg now : Int} {C : List Cn} {R : List (Int × Int)}
/-- the first j connections were asked -/
def mixC (pg gr rg now : Int) (C : List Cn) (j : Nat) : List Cn := (C.take j).map (askC pg gr rg now) ++ C.drop j
theorem mixC_len (j : Nat) (hj : j ≤ C.length) : (mixC pg gr rg now C j).length = C.length := by
  unfold mixC
  rw [List.length_append, List.length_map, List.length_take, List.length_drop]; omega
theorem mixC_zero : mixC pg gr rg now C 0 = C := by simp [mixC]
theorem mixC_all : mixC pg gr rg now C C.length = dueC pg gr rg now C := by simp [mixC, dueC]
theorem mixC_at (j : Nat) (hj : j < C.length) : (mixC pg gr rg now C j)[j]'(by rw [mixC_len j (by omega)]; exact hj) = C[j] := by
  unfold mixC
  rw [List.getElem_append_right (by rw [List.length_map, List.length_take]; omega)]
  have : j - ((C.take j).map (askC pg gr rg now)).length = 0 := by rw [List.length_map, List.length_take]; omega
  simp only [this]
  rw [List.getElem_drop]
  simp
theorem mixC_succ (j : Nat) (hj : j < C.length) : mixC pg gr rg now C (j + 1) = (mixC pg gr rg now C j).set j (askC pg gr rg now C[j]) := by
  unfold mixC
  rw [List.take_succ_eq_append_getElem hj, List.map_append, List.append_assoc, List.set_append_right _ _ (by rw [List.length_map, List.length_take]; omega)]
  have : j - ((C.take j).map (askC pg gr rg now)).length = 0 := by rw [List.length_map, List.length_take]; omega
  rw [this, List.drop_eq_getElem_cons hj]
  rfl
theorem mixC_same (j : Nat) (hj : j < C.length) (hw : whatC pg gr rg now C[j] ≠ 2) : mixC pg gr rg now C (j + 1) = mixC pg gr rg now C j := by
  rw [mixC_succ j hj]
  have : askC pg gr rg now C[j] = C[j] := by unfold askC; rw [if_neg hw]
  rw [this]
  apply List.ext_getElem?
  intro t
  rw [List.getElem?_set]
  by_cases e : j = t
  · subst e
    rw [if_pos rfl, if_pos (by rw [mixC_len j (by omega)]; exact hj), List.getElem?_eq_getElem (by rw [mixC_len j (by omega)]; exact hj), mixC_at j hj]
  · rw [if_neg e]
theorem due_none {j : Nat} (hR : IsDue pg gr rg now (C.take j) R) (hj : j < C.length) (hw : whatC pg gr rg now C[j] = 0) : IsDue pg gr rg now (C.take (j + 1)) R := by
  refine ⟨hR.1, fun i k => ?_⟩
  rw [hR.2, List.take_succ_eq_append_getElem hj]
  constructor
  · rintro ⟨c, h1, h2⟩; exact ⟨c, List.mem_append_left _ h1, h2⟩
  · rintro ⟨c, h1, h2, h3, h4⟩
    rcases List.mem_append.1 h1 with h1 | h1
    · exact ⟨c, h1, h2, h3, h4⟩
    · obtain rfl := List.mem_singleton.1 h1
      rw [hw] at h3; exact absurd h3.symm h4
theorem due_more (hd : (C.map (·.id)).Nodup) {j a : Nat} (hR : IsDue pg gr rg now (C.take j) R) (hj : j < C.length) (hw : whatC pg gr rg now C[j] ≠ 0) (ha : a ≤ R.length)
    (h1 : ∀ q (hq : q < R.length), a ≤ q → C[j].id < R[q].1) (h2 : ∀ (h : 0 < a), R[a - 1].1 ≤ C[j].id) : IsDue pg gr rg now (C.take (j + 1)) (R.take a ++ (C[j].id, whatC pg gr rg now C[j]) :: R.drop a) := by
  have hne : ∀ p ∈ R, p.1 ≠ C[j].id := fun p hp e => by
    obtain ⟨c, c1, c2, _⟩ := (hR.2 p.1 p.2).1 hp
    obtain ⟨t, ht, e2⟩ := List.mem_iff_getElem.1 c1
    rw [List.length_take] at ht
    rw [List.getElem_take] at e2
    have h4 : (C.map (·.id))[t]'(by simp; omega) = (C.map (·.id))[j]'(by simpa using hj) := by simp [e2, c2, e]
    have := (List.getElem_inj hd).1 h4
    omega
  have lo : ∀ p ∈ R.take a, p.1 < C[j].id := fun p hp => by
    obtain ⟨t, ht, e2⟩ := List.mem_iff_getElem.1 hp
    rw [List.length_take] at ht
    rw [List.getElem_take] at e2
    have h0 : 0 < a := by omega
    have h3 := h2 h0
    have h4 := hne R[a - 1] (List.getElem_mem _)
    have h5 : R[t].1 ≤ R[a - 1].1 := by
      by_cases e : t = a - 1
      · subst e; exact Int.le_refl _
      · have := (List.pairwise_iff_getElem.1 hR.1) t (a - 1) (by omega) (by omega) (by omega)
        omega
    rw [e2] at h5
    omega
  have hi : ∀ p ∈ R.drop a, C[j].id < p.1 := fun p hp => by
    obtain ⟨t, ht, e2⟩ := List.mem_iff_getElem.1 hp
    rw [List.length_drop] at ht
    rw [List.getElem_drop] at e2
    have := h1 (a + t) (by omega) (by omega)
    rwa [e2] at this
  refine ⟨?_, fun i k => ?_⟩
  · rw [List.pairwise_append, List.pairwise_cons]
    refine ⟨hR.1.sublist (List.take_sublist _ _), ⟨fun p hp => hi p hp, hR.1.sublist (List.drop_sublist _ _)⟩, fun p hp q hq => ?_⟩
    rcases List.mem_cons.1 hq with rfl | hq
    · exact lo p hp
    · have := lo p hp; have := hi q hq; omega
  · have hm : (i, k) ∈ R.take a ++ (C[j].id, whatC pg gr rg now C[j]) :: R.drop a ↔ (i, k) ∈ R ∨ (i, k) = (C[j].id, whatC pg gr rg now C[j]) := by
      have hs : (i, k) ∈ R ↔ (i, k) ∈ R.take a ∨ (i, k) ∈ R.drop a := by
        rw [← List.mem_append, List.take_append_drop]
      rw [hs, List.mem_append, List.mem_cons]
      constructor
      · rintro (h | h | h)
        · exact .inl (.inl h)
        · exact .inr h
        · exact .inl (.inr h)
      · rintro ((h | h) | h)
        · exact .inl h
        · exact .inr (.inr h)
        · exact .inr (.inl h)
    rw [hm, hR.2, List.take_succ_eq_append_getElem hj]
    constructor
    · rintro (⟨c, c1, c2⟩ | h)
      · exact ⟨c, List.mem_append_left _ c1, c2⟩
      · injection h with e1 e2
        exact ⟨C[j], List.mem_append_right _ (List.mem_singleton.2 rfl), e1.symm, e2.symm, by rw [e2]; exact hw⟩
    · rintro ⟨c, c1, c2, c3, c4⟩
      rcases List.mem_append.1 c1 with c1 | c1
      · exact .inl ⟨c, c1, c2, c3, c4⟩
      · obtain rfl := List.mem_singleton.1 c1
        exact .inr (by rw [← c2, ← c3])
end
end Go.Proofs.Ytbgmjieagnmpkaa
