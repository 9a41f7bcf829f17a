/- Layer 2: mathematics of the document's book: the least first, again and again. -/
import Derived.Test.YtfdaeajafmcjcaaBokLI
import Derived.Test.YtfdaeajafmcjcaaBokE
namespace Go.Proofs.Ytfdaeajafmcjcaa
set_option linter.unusedVariables false
set_option linter.unusedSimpArgs false
open Go Go.RowKit Go.Maps Go.Sort Go.Shelf

/-- one stands ahead of another one -/
def ltU (x y : Ent VI) : Prop := x.fold < y.fold
instance (x y : Ent VI) : Decidable (ltU x y) := inferInstanceAs (Decidable (x.fold < y.fold))
theorem ltU_irr (x : Ent VI) : ¬ ltU x x := kirrO _
theorem ltU_tr {x y z : Ent VI} (h : ltU x y) (k : ltU y z) : ltU x z := ktrO h k
/-- those that don't stand ahead of a name -/
def wantU (fr : KeyB) (U : List (Ent VI)) : List (Ent VI) := U.filter fun e => !decide (e.fold < fr)
theorem wantEI_U (fr : KeyB) (T : List (KeyB × Ent VI)) : wantEI fr T = wantU fr (T.map (·.2)) := by
  unfold wantEI wantU
  rw [List.filter_map]
  rfl
theorem wantU_nodup {U : List (Ent VI)} (h : (U.map (·.fold)).Nodup) (fr : KeyB) : ((wantU fr U).map (·.fold)).Nodup := h.sublist ((List.filter_sublist).map _)
/-- they, in their order -/
def rowU (fr : KeyB) (U : List (Ent VI)) : List (Ent VI) := (sortO ((wantU fr U).map (·.fold))).map (withEI (wantU fr U))
theorem rowU_perm {U : List (Ent VI)} (h : (U.map (·.fold)).Nodup) (fr : KeyB) : (rowU fr U).Perm (wantU fr U) := by
  have := (sortO_perm ((wantU fr U).map (·.fold))).map (withEI (wantU fr U))
  rwa [withEI_map (wantU_nodup h fr)] at this
theorem rowU_rise {U : List (Ent VI)} (h : (U.map (·.fold)).Nodup) (fr : KeyB) : (rowU fr U).Pairwise ltU := by
  refine List.pairwise_map.2 ((sortO_rise (wantU_nodup h fr)).imp fun {a b} hab => ?_)
  unfold ltU
  rw [withEI_fold, withEI_fold]
  exact hab
theorem rowU_mem {U : List (Ent VI)} (h : (U.map (·.fold)).Nodup) {fr : KeyB} {p : Ent VI} : p ∈ rowU fr U ↔ p ∈ U ∧ ¬ p.fold < fr := by
  rw [(rowU_perm h fr).mem_iff]
  unfold wantU
  rw [List.mem_filter]
  simp
theorem rowU_len (U : List (Ent VI)) (fr : KeyB) : (rowU fr U).length ≤ U.length := by
  unfold rowU
  rw [List.length_map, (sortO_perm _).length_eq, List.length_map]
  exact List.length_filter_le _ _
/-- two rising rows of the same entries are one -/
theorem rise_one {R S : List (Ent VI)} (hR : R.Pairwise ltU) (hS : S.Pairwise ltU) (hp : R.Perm S) : R = S := by
  induction R generalizing S with
  | nil => exact (List.nil_perm.1 hp).symm
  | cons a r ih =>
    cases S with
    | nil => exact absurd hp.length_eq (by simp)
    | cons b s =>
      rw [List.pairwise_cons] at hR hS
      have hab : a = b := by
        have h1 : a ∈ b :: s := hp.mem_iff.1 List.mem_cons_self
        have h2 : b ∈ a :: r := hp.mem_iff.2 List.mem_cons_self
        rcases List.mem_cons.1 h1 with e | e
        · exact e
        · rcases List.mem_cons.1 h2 with e2 | e2
          · exact e2.symm
          · exact absurd (ltU_tr (hR.1 b e2) (hS.1 a e)) (ltU_irr a)
      subst hab
      rw [ih hR.2 hS.2 (List.Perm.cons_inv hp)]
/-- one that may come next -/
def CandU (fr : KeyB) (o : Option (Ent VI)) (p : Ent VI) : Prop := ¬ p.fold < fr ∧ ∀ y, o = some y → ltU y p
theorem candU_iff {T : List (Ent VI)} (h : (T.map (·.fold)).Nodup) (fr : KeyB) (m : Nat) (p : Ent VI) : (p ∈ T ∧ CandU fr ((rowU fr T).take m).getLast? p) ↔ p ∈ (rowU fr T).drop m := by
  have hr := rowU_rise h fr
  have hmem : p ∈ rowU fr T ↔ p ∈ T ∧ ¬ p.fold < fr := rowU_mem h
  obtain ⟨D, hD⟩ : ∃ D, rowU fr T = D := ⟨_, rfl⟩
  rw [hD] at hr hmem ⊢
  have hsp := List.take_append_drop m D
  rw [← hsp, List.pairwise_append] at hr
  obtain ⟨r1, r2, r3⟩ := hr
  constructor
  · rintro ⟨q1, q2, q3⟩
    have hp := hmem.2 ⟨q1, q2⟩
    rw [← hsp, List.mem_append] at hp
    rcases hp with hp | hp
    · exfalso
      cases hl : (D.take m).getLast? with
      | none =>
        rw [List.getLast?_eq_none_iff] at hl
        rw [hl] at hp
        cases hp
      | some y =>
        have h1 := q3 y hl
        obtain ⟨ys, hys⟩ := List.getLast?_eq_some_iff.1 hl
        rw [hys, List.mem_append] at hp
        rw [hys, List.pairwise_append] at r1
        rcases hp with hp | hp
        · exact ltU_irr _ (ltU_tr h1 (r1.2.2 p hp y (by simp)))
        · simp only [List.mem_singleton] at hp
          subst hp
          exact ltU_irr _ h1
    · exact hp
  · intro hp
    have h2 := hmem.1 (by rw [← hsp, List.mem_append]; exact .inr hp)
    exact ⟨h2.1, h2.2, fun y hy => r3 y (List.mem_of_getLast? hy) p hp⟩
/-- b is where the best of the first i stands; -1: none -/
def BestU (T : List (Ent VI)) (fr : KeyB) (o : Option (Ent VI)) (i : Nat) (b : Int) : Prop :=
  (b = -1 ∧ ∀ j, j < i → ∀ p, T[j]? = some p → ¬ CandU fr o p) ∨ ∃ (k : Nat) (q : Ent VI), b = k ∧ k < i ∧ T[k]? = some q ∧ CandU fr o q ∧ ∀ j, j < i → ∀ p, T[j]? = some p → CandU fr o p → ¬ ltU p q
theorem bestU_zero (T : List (Ent VI)) (fr : KeyB) (o : Option (Ent VI)) : BestU T fr o 0 (-1) := .inl ⟨rfl, fun j hj => by omega⟩
theorem bestU_skip {T : List (Ent VI)} {fr : KeyB} {o : Option (Ent VI)} {i : Nat} {b : Int} (h : BestU T fr o i b) {p : Ent VI} (hp : T[i]? = some p) (hc : ¬ CandU fr o p) : BestU T fr o (i + 1) b := by
  rcases h with ⟨h1, h2⟩ | ⟨k, q, h1, h2, h3, h4, h5⟩
  · refine .inl ⟨h1, fun j hj p' hp' => ?_⟩
    by_cases e : j = i
    · subst e; rw [hp] at hp'; cases hp'; exact hc
    · exact h2 j (by omega) p' hp'
  · refine .inr ⟨k, q, h1, by omega, h3, h4, fun j hj p' hp' hc' => ?_⟩
    by_cases e : j = i
    · subst e; rw [hp] at hp'; cases hp'; exact absurd hc' hc
    · exact h5 j (by omega) p' hp' hc'
theorem bestU_first {T : List (Ent VI)} {fr : KeyB} {o : Option (Ent VI)} {i : Nat} (h : BestU T fr o i (-1)) {p : Ent VI} (hp : T[i]? = some p) (hc : CandU fr o p) : BestU T fr o (i + 1) i := by
  rcases h with ⟨h1, h2⟩ | ⟨k, q, h1, h2, h3, h4, h5⟩
  · refine .inr ⟨i, p, rfl, by omega, hp, hc, fun j hj p' hp' hc' => ?_⟩
    by_cases e : j = i
    · subst e; rw [hp] at hp'; cases hp'; exact ltU_irr _
    · exact absurd hc' (h2 j (by omega) p' hp')
  · omega
theorem bestU_less {T : List (Ent VI)} {fr : KeyB} {o : Option (Ent VI)} {i k : Nat} (h : BestU T fr o i k) {p q : Ent VI} (hp : T[i]? = some p) (hc : CandU fr o p) (hq : T[k]? = some q) (hl : ltU p q) : BestU T fr o (i + 1) i := by
  rcases h with ⟨h1, h2⟩ | ⟨k', q', h1, h2, h3, h4, h5⟩
  · omega
  · obtain rfl : k = k' := by omega
    rw [hq] at h3
    cases h3
    refine .inr ⟨i, p, rfl, by omega, hp, hc, fun j hj p' hp' hc' => ?_⟩
    by_cases e : j = i
    · subst e; rw [hp] at hp'; cases hp'; exact ltU_irr _
    · exact fun e2 => h5 j (by omega) p' hp' hc' (ltU_tr e2 hl)
theorem bestU_keep {T : List (Ent VI)} {fr : KeyB} {o : Option (Ent VI)} {i k : Nat} (h : BestU T fr o i k) {p q : Ent VI} (hp : T[i]? = some p) (hq : T[k]? = some q) (hl : ¬ ltU p q) : BestU T fr o (i + 1) k := by
  rcases h with ⟨h1, h2⟩ | ⟨k', q', h1, h2, h3, h4, h5⟩
  · omega
  · obtain rfl : k = k' := by omega
    rw [hq] at h3
    cases h3
    refine .inr ⟨k, q, rfl, by omega, hq, h4, fun j hj p' hp' hc' => ?_⟩
    by_cases e : j = i
    · subst e; rw [hp] at hp'; cases hp'; exact hl
    · exact h5 j (by omega) p' hp' hc'
theorem bestU_lt {T : List (Ent VI)} {fr : KeyB} {o : Option (Ent VI)} {i : Nat} {b : Int} (h : BestU T fr o i b) : b = -1 ∨ ∃ k : Nat, b = k ∧ k < i := by
  rcases h with ⟨h1, _⟩ | ⟨k, q, h1, h2, _⟩
  · exact .inl h1
  · exact .inr ⟨k, h1, h2⟩
/-- none is left -/
theorem bestU_none {T : List (Ent VI)} (h : (T.map (·.fold)).Nodup) {fr : KeyB} {m : Nat} (hm : m ≤ (rowU fr T).length) (hb : BestU T fr ((rowU fr T).take m).getLast? T.length (-1)) : m = (rowU fr T).length := by
  rcases hb with ⟨_, h2⟩ | ⟨k, q, h1, _⟩
  · by_cases hlt : m < (rowU fr T).length
    · have h3 : (rowU fr T)[m] ∈ (rowU fr T).drop m := by
        rw [List.mem_iff_getElem]
        exact ⟨0, by rw [List.length_drop]; omega, by simp⟩
      obtain ⟨h4, h5⟩ := (candU_iff h fr m _).2 h3
      obtain ⟨j, hj, e⟩ := List.mem_iff_getElem.1 h4
      exact absurd h5 (h2 j hj _ (by rw [← e]; exact List.getElem?_eq_getElem hj))
    · omega
  · omega
/-- the best is the next -/
theorem bestU_next {T : List (Ent VI)} (h : (T.map (·.fold)).Nodup) {fr : KeyB} {m k : Nat} {q : Ent VI} (hq : T[k]? = some q) (hb : BestU T fr ((rowU fr T).take m).getLast? T.length k) : m < (rowU fr T).length ∧ (rowU fr T).take (m + 1) = (rowU fr T).take m ++ [q] := by
  rcases hb with ⟨h1, _⟩ | ⟨k', q', h1, h2, h3, h4, h5⟩
  · omega
  · obtain rfl : k = k' := by omega
    rw [hq] at h3
    cases h3
    have hqm : q ∈ T := List.mem_of_getElem? hq
    have hd := (candU_iff h fr m q).1 ⟨hqm, h4⟩
    have hlt : m < (rowU fr T).length := by
      have := List.length_pos_of_mem hd
      rw [List.length_drop] at this
      omega
    refine ⟨hlt, ?_⟩
    have hsp : (rowU fr T).drop m = (rowU fr T)[m] :: (rowU fr T).drop (m + 1) := List.drop_eq_getElem_cons hlt
    have hmd : (rowU fr T)[m] ∈ (rowU fr T).drop m := by rw [hsp]; exact List.mem_cons_self
    obtain ⟨c1, c2⟩ := (candU_iff h fr m _).2 hmd
    obtain ⟨j, hj, e⟩ := List.mem_iff_getElem.1 c1
    have hnl := h5 j hj (rowU fr T)[m] (by rw [← e]; exact List.getElem?_eq_getElem hj) c2
    have hpw : ((rowU fr T).drop m).Pairwise ltU := (rowU_rise h fr).sublist (List.drop_sublist _ _)
    rw [hsp] at hd hpw
    rw [List.pairwise_cons] at hpw
    rw [List.mem_cons] at hd
    rcases hd with hd | hd
    · rw [List.take_succ_eq_append_getElem hlt, ← hd]
    · exact absurd (hpw.1 q hd) hnl
/-- where a name stands; -1: nowhere -/
def IxU (U : List (Ent VI)) (k : KeyB) (n : Int) : Prop := (n = -1 ∧ ∀ e ∈ U, e.fold ≠ k) ∨ ∃ i : Nat, ∃ h : i < U.length, n = i ∧ U[i].fold = k
/-- the program's entries and the document's -/
structure TwoU (T : List (KeyB × Ent VI)) (U : List (Ent VI)) : Prop where
  perm : (T.map (·.2)).Perm U
  keys : ∀ p ∈ T, p.2.fold = p.1
  nodup : (T.map (·.1)).Nodup
theorem TwoU.len {T : List (KeyB × Ent VI)} {U : List (Ent VI)} (h : TwoU T U) : T.length = U.length := by
  have := h.perm.length_eq
  rwa [List.length_map] at this
theorem TwoU.folds {T : List (KeyB × Ent VI)} {U : List (Ent VI)} (h : TwoU T U) : (U.map (·.fold)).Nodup := by
  have h1 : T.map (·.1) = (T.map (·.2)).map (·.fold) := by
    rw [List.map_map]
    exact List.map_congr_left fun p hp => (h.keys p hp).symm
  have h2 := h.nodup
  rw [h1] at h2
  exact (h.perm.map _).nodup_iff.1 h2
theorem TwoU.none {T : List (KeyB × Ent VI)} {U : List (Ent VI)} (h : TwoU T U) {k : KeyB} (hk : ∀ e ∈ U, e.fold ≠ k) : lookM T k = none ∧ delM T k = T := by
  have h1 : lookM T k = Option.none := by
    unfold lookM
    rw [List.find?_eq_none.2 (fun p hp => by
      have h2 := hk p.2 (h.perm.mem_iff.1 (List.mem_map_of_mem hp))
      rw [h.keys p hp] at h2
      simpa using h2)]
    rfl
  exact ⟨h1, lookM_none (by rw [h1]; rfl)⟩
theorem TwoU.some {T : List (KeyB × Ent VI)} {U : List (Ent VI)} (h : TwoU T U) {k : KeyB} {i : Nat} (hi : i < U.length) (hk : U[i].fold = k) : lookM T k = some U[i] := by
  have h1 : U[i] ∈ T.map (·.2) := h.perm.mem_iff.2 (List.getElem_mem hi)
  obtain ⟨p, hp, e⟩ := List.mem_map.1 h1
  have h2 : p.1 = k := by rw [← h.keys p hp, e, hk]
  cases hl : lookM T k with
  | none =>
    unfold lookM at hl
    rw [Option.map_eq_none_iff, List.find?_eq_none] at hl
    exact absurd h2 (by simpa using hl p hp)
  | some v =>
    have h3 := lookM_in hl
    obtain ⟨a, ha, e2⟩ := List.mem_iff_getElem.1 h3
    obtain ⟨b, hb, e3⟩ := List.mem_iff_getElem.1 hp
    have hn := h.nodup
    rw [List.nodup_iff_pairwise_ne, List.pairwise_iff_getElem] at hn
    have hab : a = b := by
      rcases Nat.lt_trichotomy a b with q | q | q
      · exact absurd (by rw [List.getElem_map, List.getElem_map, e2, e3, h2]) (hn a b (by simpa using ha) (by simpa using hb) q)
      · exact q
      · exact absurd (by rw [List.getElem_map, List.getElem_map, e2, e3, h2]) (hn b a (by simpa using hb) (by simpa using ha) q)
    subst hab
    rw [e2] at e3
    rw [← e, ← e3]
theorem delU_at {U : List (Ent VI)} (h : (U.map (·.fold)).Nodup) {i : Nat} (hi : i < U.length) {k : KeyB} (hk : U[i].fold = k) : (U.filter fun e => decide (e.fold ≠ k)) = U.take i ++ U.drop (i + 1) := by
  obtain ⟨a, ha⟩ : ∃ a, U[i] = a := ⟨_, rfl⟩
  have hsp : U = U.take i ++ a :: U.drop (i + 1) := by rw [← ha, ← List.drop_eq_getElem_cons hi, List.take_append_drop]
  rw [ha] at hk
  subst hk
  rw [hsp, List.map_append, List.map_cons, List.nodup_append, List.nodup_cons] at h
  obtain ⟨_, ⟨h2, _⟩, h4⟩ := h
  conv => lhs; rw [hsp]
  rw [List.filter_append, List.filter_cons_of_neg (by simp)]
  congr 1
  · rw [List.filter_eq_self]
    intro p hp
    simp only [decide_eq_true_eq]
    exact h4 _ (List.mem_map_of_mem hp) _ List.mem_cons_self
  · rw [List.filter_eq_self]
    intro p hp
    simp only [decide_eq_true_eq]
    exact fun e => h2 (by rw [← e]; exact List.mem_map_of_mem hp)
theorem TwoU.perm_del {T : List (KeyB × Ent VI)} {U : List (Ent VI)} (h : TwoU T U) (k : KeyB) : ((delM T k).map (·.2)).Perm (U.filter fun e => decide (e.fold ≠ k)) := by
  have h1 : (delM T k).map (·.2) = (T.map (·.2)).filter fun e => decide (e.fold ≠ k) := by
    unfold delM
    rw [List.filter_map]
    congr 1
    refine List.filter_congr fun p hp => ?_
    simp only [Function.comp_apply, h.keys p hp]
  rw [h1]
  exact h.perm.filter _
theorem TwoU.del {T : List (KeyB × Ent VI)} {U : List (Ent VI)} (h : TwoU T U) {k : KeyB} {i : Nat} (hi : i < U.length) (hk : U[i].fold = k) : TwoU (delM T k) (U.take i ++ U.drop (i + 1)) :=
  ⟨by rw [← delU_at h.folds hi hk]; exact h.perm_del k, fun p hp => h.keys p (List.mem_filter.1 hp).1, nodup_delM h.nodup k⟩
theorem TwoU.keys_set {T : List (KeyB × Ent VI)} {U : List (Ent VI)} (h : TwoU T U) {k : KeyB} {e : Ent VI} (he : e.fold = k) : ∀ p ∈ setM T k e, p.2.fold = p.1 := fun p hp => by
  unfold setM at hp
  rcases List.mem_append.1 hp with hp | hp
  · exact h.keys p (List.mem_filter.1 hp).1
  · simp at hp; subst hp; exact he
theorem TwoU.put {T : List (KeyB × Ent VI)} {U : List (Ent VI)} (h : TwoU T U) {k : KeyB} {e : Ent VI} (he : e.fold = k) (hk : ∀ e ∈ U, e.fold ≠ k) : TwoU (setM T k e) (U ++ [e]) := by
  refine ⟨?_, h.keys_set he, nodup_setM h.nodup k e⟩
  have h1 : setM T k e = delM T k ++ [(k, e)] := rfl
  rw [h1, (h.none hk).2, List.map_append]
  exact h.perm.append_right _
theorem TwoU.anew {T : List (KeyB × Ent VI)} {U : List (Ent VI)} (h : TwoU T U) {k : KeyB} {e : Ent VI} (he : e.fold = k) {i : Nat} (hi : i < U.length) (hk : U[i].fold = k) : TwoU (setM T k e) (U.set i e) := by
  refine ⟨?_, h.keys_set he, nodup_setM h.nodup k e⟩
  have h1 : setM T k e = delM T k ++ [(k, e)] := rfl
  have h2 : U.set i e = U.take i ++ e :: U.drop (i + 1) := List.set_eq_take_append_cons_drop.trans (if_pos hi)
  have h3 := h.perm_del k
  rw [delU_at h.folds hi hk] at h3
  rw [h1, h2, List.map_append]
  refine (h3.append_right _).trans ?_
  rw [List.append_assoc]
  refine List.Perm.append_left _ ?_
  exact List.perm_append_comm (l₁ := U.drop (i + 1)) (l₂ := [e])
/-- what the program tells is the document's row -/
theorem TwoU.row {T : List (KeyB × Ent VI)} {U : List (Ent VI)} (h : TwoU T U) {fr : KeyB} {R : List (Ent VI)} (h1 : R.Pairwise fun x y => x.fold < y.fold) (h2 : R.Perm (wantEI fr T)) : R = rowU fr U := by
  refine rise_one h1 (rowU_rise h.folds fr) ?_
  refine h2.trans (List.Perm.trans ?_ (rowU_perm h.folds fr).symm)
  rw [wantEI_U]
  exact h.perm.filter _
end Go.Proofs.Ytfdaeajafmcjcaa
