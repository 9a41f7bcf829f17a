/- Texts of this proof, one behind the other. -/
import Derived.Test.YteiiaocohpbanaaGreatPairStaysG8
import Derived.Test.YteiiaocohpbanaaGreatPairStaysG7
import Derived.Test.YteiiaocohpbanaaGreatPairStaysG4
import Derived.Below
import Derived.Carry
import Derived.Deep.Strs
import Derived.ChangeSame
import Derived.DataReads
import Derived.ProofKit
import Derived.OpenShut
import Derived.Test.YteiiaocohpbanaaGreatPairStaysG1
import Derived.Test.YteiiaocohpbanaaGreatChecked
import Derived.Sort.QuietThIn
import Derived.Sort.QuietTacIn
import Derived.StillTail
import Derived.TacticsIn
section
/- Layer 11: a relation of ints and ints: Remove; nil ones. -/
namespace Go.Proofs.YteiiaocohpbanaaGreat
set_option linter.unusedVariables false
set_option linter.unusedSimpArgs false
open Go Go.RowKit Go.Maps Go.Lib

def lessLII (L : List ((Int) × (Int))) (a : Int) (b : Int) : List ((Int) × (Int)) := L.filter fun p => decide (p ≠ (a, b))
theorem lessMemII {L : List ((Int) × (Int))} {a : Int} {b : Int} {p : (Int) × (Int)} : p ∈ lessLII L a b ↔ p ∈ L ∧ p ≠ (a, b) := by unfold lessLII; rw [List.mem_filter]; simp
theorem lessNotII {L : List ((Int) × (Int))} {a : Int} {b : Int} (h : (a, b) ∉ L) : lessLII L a b = L := by
  unfold lessLII
  rw [List.filter_eq_self]
  intro p hp
  simp only [decide_eq_true_eq]
  exact fun e => h (e ▸ hp)
theorem lessLenII {L : List ((Int) × (Int))} {a : Int} {b : Int} (hn : L.Nodup) (h : (a, b) ∈ L) : (lessLII L a b).length + 1 = L.length := by
  induction L with
  | nil => cases h
  | cons x r ih =>
    rw [List.nodup_cons] at hn
    unfold lessLII at ih ⊢
    by_cases e : x = (a, b)
    · subst e
      rw [List.filter_cons_of_neg (by simp)]
      have := lessNotII hn.1
      unfold lessLII at this
      rw [this, List.length_cons]
    · rw [List.filter_cons_of_pos (by simpa using e), List.length_cons, List.length_cons]
      rcases List.mem_cons.1 h with h | h
      · exact absurd h.symm e
      · have := ih hn.2 h; omega
theorem rem_stII {base : Nat} {w w1 w2 : World} {t b1 b2 : Nat} {most : Int} {L : List ((Int) × (Int))} {T1 : List ((Int) × SetE (Int))} {T2 : List ((Int) × SetE (Int))} (h : RelStII base w t b1 b2 most L T1 T2)
    {a : Int} {b : Int} (hm : (a, b) ∈ L) (h1 : PutPII base b1 T1 a (delI (lk T1 a) b) w w1) (h2 : PutPII base b2 T2 b (delI (lk T2 b) a) w1 w2) :
    ∃ X', RelAtII base (w2.setCell ⟨t, 1, none⟩ (.int .i64 ((L.length : Int) - 1))) t X' most (lessLII L a b) ∧ (∀ j, X' j → (j = t ∨ BlP b1 T1 j ∨ BlP b2 T2 j) ∨ w.heap.size ≤ j) ∧ Fr (fun j => j = t ∨ BlP b1 T1 j ∨ BlP b2 T2 j) w (w2.setCell ⟨t, 1, none⟩ (.int .i64 ((L.length : Int) - 1))) := by
  have hlen := lessLenII h.nd hm
  obtain ⟨T1', p1, p2, p3, p4, p5, p6⟩ := h1
  obtain ⟨T2', q1, q2, q3, q4, q5, q6⟩ := h2
  have hz := p4.size
  have l1 : ∀ j, BlP b1 T1 j → j < w.heap.size := fun j hj => (blPII_lt h.m1 hj).2
  have l2 : ∀ j, BlP b2 T2 j → j < w.heap.size := fun j hj => (blPII_lt h.m2 hj).2
  have l1' : ∀ j, BlP b1 T1' j → j < w1.heap.size := fun j hj => (blPII_lt p1 hj).2
  have lt := blk_lt h.blk
  have sep : ∀ j, BlP b1 T1' j → ¬ BlP b2 T2' j := fun j hj hj2 => by
    rcases p5 j hj with e | e
    · rcases q5 j hj2 with e2 | e2
      · exact h.ap j e e2
      · have := l1 j e; omega
    · rcases q5 j hj2 with e2 | e2
      · have := l2 j e2; omega
      · have := l1' j hj; omega
  have t1' : ¬ BlP b1 T1' t := fun e => by
    rcases p5 t e with e | e
    · exact h.t1 e
    · omega
  have t2' : ¬ BlP b2 T2' t := fun e => by
    rcases q5 t e with e | e
    · exact h.t2 e
    · omega
  have m1 : MapStII base w2 b1 T1' := mapStII_fr p1 q4 fun j hj e => by
    rcases p5 j hj with e1 | e1
    · exact h.ap j e1 e
    · have := l2 j e; omega
  have fc : Fr (fun j => j = t) w2 (w2.setCell ⟨t, 1, none⟩ (.int .i64 ((L.length : Int) - 1))) := Fr.setCell (X := fun j => j = t) (Fr.refl _ w2) _ rfl _
  have hb2 : w2.heap[t]? = some (.cells #[.int .i64 most, .int .i64 L.length, .map (some b1), .map (some b2)] 81 (0, 0)) := q4.blk (p4.blk h.blk h.t1) h.t2
  refine ⟨fun j => j = t ∨ BlP b1 T1' j ∨ BlP b2 T2' j, ⟨b1, b2, T1', T2', ⟨h.le, ?_, mapStII_fr m1 fc fun j hj e => t1' (e ▸ hj), mapStII_fr q1 fc fun j hj e => t2' (e ▸ hj), p3 h.n1, q3 h.n2, sep, t1', t2', fun a' b' => ?_, fun a' b' => ?_, ?_⟩, fun j => Iff.rfl⟩, fun j hj => ?_, ?_⟩
  · have := blk_set hb2 1 (.int .i64 ((L.length : Int) - 1))
    rw [this, show ((lessLII L a b).length : Int) = (L.length : Int) - 1 by omega]
    rfl
  · rw [p2, lessMemII]
    by_cases e : a' = a
    · subst e
      rw [if_pos rfl, delI_mem (lkUpII h.m1 a'), h.h1]
      simp
    · rw [if_neg e, h.h1]
      simp [e]
  · rw [q2, lessMemII]
    by_cases e : b' = b
    · subst e
      rw [if_pos rfl, delI_mem (lkUpII h.m2 b'), h.h2]
      simp
    · rw [if_neg e, h.h2]
      simp [e]
  · exact h.nd.sublist List.filter_sublist
  · rcases hj with rfl | hj | hj
    · exact .inl (.inl rfl)
    · rcases p5 j hj with e | e
      · exact .inl (.inr (.inl e))
      · exact .inr e
    · rcases q5 j hj with e | e
      · exact .inl (.inr (.inr e))
      · exact .inr (by omega)
  · exact ((p4.mono fun j _ e => .inr (.inl e) : Fr (fun j => j = t ∨ BlP b1 T1 j ∨ BlP b2 T2 j) w w1).trans3 q4 fun j _ e => .inr (.inr e)).trans3 fc fun j _ e => .inl e
/-- what Remove does -/
def RemRII (base t : Nat) (X : Nat → Prop) (most : Int) (L : List ((Int) × (Int))) (a : Int) (b : Int) (w : World) (e : Ending) (w' : World) : Prop :=
  e = .returned (.bool (decide ((a, b) ∈ L))) ∧ ∃ X', (∀ j, X' j → X j ∨ w.heap.size ≤ j) ∧ Fr X w w' ∧ RelAtII base w' t X' most (lessLII L a b)
set_option maxRecDepth 100000 in
set_option maxHeartbeats 4000000 in
theorem relRemII {base : Nat} {w : World} {t : Nat} {X : Nat → Prop} {most : Int} {L : List ((Int) × (Int))} (h : RelAtII base w t X most L) (hbw : base ≤ w.heap.size) (hL : L.length ≤ 90000) {a : Int} (ha : OkKII a) {b : Int} (hb : OkKII b) :
    Calls Tryz.prog 29 #[.pointer (some ⟨t, 0, none⟩), .int .i64 a, .int .i64 b] w (RemRII base t X most L a b w) := by
  obtain ⟨b1, b2, T1, T2, hR, hX⟩ := h
  have HH := relHasII hR (by omega) ha b
  have hks := hR.keys
  have H := Lib.hid (And.intro hR hX)
  unfold RemRII
  by_cases hd : (a, b) ∈ L
  · rw [decide_eq_true hd] at HH ⊢
    have HHas := Lib.hid HH
    have HA := Lib.hid (And.intro hks (And.intro ha hb))
    have HD := Lib.hid hd
    clear HH hR hX hks ha hb hd
    have hone : 1 ≤ L.length := List.length_pos_of_mem HD.out
    go_enter Tryz.func29, Tryz.ntmps29
    go_wp2_with fail
    refine HHas.out.mono ?_
    rintro e w1 ⟨rfl, q, rfl⟩
    obtain ⟨V, hV⟩ : ∃ V, w.drewN q = V := ⟨_, rfl⟩
    rw [hV]
    have hVh : V.heap = w.heap := by rw [← hV]; rfl
    have hVf : Fr (fun _ => False) w V := by rw [← hV]; exact (Fr.refl _ w).drewN q
    have hRV : RelStII base V t b1 b2 most L T1 T2 := H.out.1.same fun _ _ => by rw [hVh]
    have hbV : base ≤ V.heap.size := by rw [hVh]; exact hbw
    have v2 := blk_cell hRV.blk 2
    obtain ⟨e1, hl1, hx1⟩ := lkHasII ((hRV.h1 a b).2 HD.out)
    obtain ⟨e2, hl2, hx2⟩ := lkHasII ((hRV.h2 a b).2 HD.out)
    have HF := Lib.hid (emptyII hRV.m1 hbV HA.out.2.1 b hl1 (by rw [hx1]; exact Nat.le_trans (HA.out.1.2.2.1 a) (by omega)))
    have HV := Lib.hid (And.intro hRV (And.intro hVh (And.intro hVf (And.intro hbV (And.intro hl2 hx2)))))
    clear hV hVh hVf hRV hbV hl1 hx1 hl2 hx2
    go_wp2_with fail
    refine HF.out.mono ?_
    rintro e w3 ⟨rfl, hP1⟩
    obtain ⟨hRV, hVh, hVf, hbV, hl2, hx2⟩ := HV.out
    obtain ⟨T1', p1, p2, p3, p4, p5, p6⟩ := id hP1
    have hb3 := p4.blk hRV.blk hRV.t1
    have c3 := blk_cell hb3 3
    have m2 : MapStII base w3 b2 T2 := mapStII_fr hRV.m2 p4 fun j hj e => hRV.ap j e hj
    have HF2 := Lib.hid (emptyII m2 (Nat.le_trans hbV p4.size) HA.out.2.2 a hl2 (by rw [hx2]; exact Nat.le_trans (HA.out.1.2.2.2 b) (by omega)))
    have HP := Lib.hid (And.intro hP1 (And.intro hb3 m2))
    clear hP1 p1 p2 p3 p4 p5 p6 hb3 m2 hRV hVh hVf hbV v2 hl2 hx2
    go_wp2_with fail
    refine HF2.out.mono ?_
    rintro e w4 ⟨rfl, hP2⟩
    obtain ⟨hRV, hVh, hVf, hbV, hl2, hx2⟩ := HV.out
    obtain ⟨hP1, hb3, m2⟩ := HP.out
    obtain ⟨T2', q1', q2, q3, q4, q5, q6⟩ := id hP2
    have hb4 := q4.blk hb3 hRV.t2
    have c1 := blk_cell hb4 1
    have f1 := blk_free hb4 1
    obtain ⟨X', hat, hx', hfr⟩ := rem_stII hRV HD.out hP1 hP2
    have hl2 : (L.length : Int) ≤ 100000 := by omega
    have hl3 : 1 ≤ (L.length : Int) := by omega
    have HE : Hid (RemRII base t X most L a b w (.returned (.bool true)) (w4.setCell ⟨t, 1, none⟩ (.int .i64 ((L.length : Int) - 1)))) := by
      have hX := H.out.2
      refine ⟨by rw [decide_eq_true HD.out], X', fun j hj => ?_, ?_, hat⟩
      · rcases hx' j hj with e | e
        · exact .inl ((hX j).2 e)
        · exact .inr (by rw [← hVh]; exact e)
      · exact (hVf.mono fun _ _ e => e.elim : Fr X w V).trans3 hfr fun j _ e => (hX j).2 e
    clear hP1 hb3 m2 hP2 q1' q2 q3 q4 q5 q6 hb4 hat hx' hfr hRV hVh hVf hbV hx2
    go_wp2_with fail
    go_ret
    exact ⟨rfl, HE.out.2⟩
  · rw [decide_eq_false hd] at HH ⊢
    have HHas := Lib.hid HH
    have HD := Lib.hid hd
    clear HH hR hX hks ha hb hd
    go_enter Tryz.func29, Tryz.ntmps29
    go_wp2_with fail
    refine HHas.out.mono ?_
    rintro e w1 ⟨rfl, q, rfl⟩
    go_wp2_with fail
    go_ret
    refine ⟨rfl, X, fun j hj => .inl hj, (Fr.refl X w).drewN q, ?_⟩
    rw [lessNotII HD.out]
    exact ⟨b1, b2, T1, T2, H.out.1.same fun _ _ => rfl, H.out.2⟩
/-- a nil relation -/
theorem rightsNilII (a : Int) (w : World) : Calls Tryz.prog 54 #[.pointer none, .int .i64 a] w fun e w' => e = .returned (.pointer none) ∧ w' = w := by
  go_enter Tryz.func54, Tryz.ntmps54
  go_wp2_with fail
  go_ret
  exact ⟨rfl, rfl⟩
theorem relHasNilII (a : Int) (b : Int) (w : World) : Calls Tryz.prog 40 #[.pointer none, .int .i64 a, .int .i64 b] w fun e w' => e = .returned (.bool false) ∧ w' = w := by
  have HR := Lib.hid (rightsNilII a w)
  have HS := Lib.hid (set_has_nil b w)
  go_enter Tryz.func40, Tryz.ntmps40
  go_wp2_with fail
  refine HR.out.mono ?_
  rintro e w1 ⟨rfl, rfl⟩
  go_wp2_with fail
  refine HS.out.mono ?_
  rintro e w2 ⟨rfl, rfl⟩
  go_wp2_with fail
  go_ret
  exact ⟨rfl, rfl⟩
theorem relCountNilII (a : Int) (w : World) : Calls Tryz.prog 41 #[.pointer none, .int .i64 a] w fun e w' => e = .returned (.int .i64 0) ∧ w' = w := by
  have HR := Lib.hid (rightsNilII a w)
  have HS := Lib.hid (set_len_nil w)
  go_enter Tryz.func41, Tryz.ntmps41
  go_wp2_with fail
  refine HR.out.mono ?_
  rintro e w1 ⟨rfl, rfl⟩
  go_wp2_with fail
  refine HS.out.mono ?_
  rintro e w2 ⟨rfl, rfl⟩
  go_wp2_with fail
  go_ret
  exact ⟨rfl, rfl⟩
theorem relLenNilII (w : World) : Calls Tryz.prog 27 #[.pointer none] w fun e w' => e = .returned (.int .i64 0) ∧ w' = w := by
  go_enter Tryz.func27, Tryz.ntmps27
  go_wp2_with fail
  go_ret
  exact ⟨rfl, rfl⟩
theorem relAddNilII (a : Int) (b : Int) (w : World) : Calls Tryz.prog 26 #[.pointer none, .int .i64 a, .int .i64 b] w fun e w' => e = .returned (.int .i64 1) ∧ w' = w := by
  go_enter Tryz.func26, Tryz.ntmps26
  go_wp2_with fail
  go_ret
  exact ⟨rfl, rfl⟩
theorem relRemNilII (a : Int) (b : Int) (w : World) : Calls Tryz.prog 29 #[.pointer none, .int .i64 a, .int .i64 b] w fun e w' => e = .returned (.bool false) ∧ w' = w := by
  have HR := Lib.hid (relHasNilII a b w)
  go_enter Tryz.func29, Tryz.ntmps29
  go_wp2_with fail
  refine HR.out.mono ?_
  rintro e w1 ⟨rfl, rfl⟩
  go_wp2_with fail
  go_ret
  exact ⟨rfl, rfl⟩
theorem relByNilII (b : Int) (w : World) : Calls Tryz.prog 28 #[.pointer none, .int .i64 b] w (AllP [] w) := by
  have HA := Lib.hid (set_all_nil w)
  go_enter Tryz.func28, Tryz.ntmps28
  go_wp2_with fail
  refine HA.out.mono ?_
  rintro e w2 ⟨⟨F, rfl, h4⟩, h5⟩
  have H2 := Lib.hid (And.intro h4 h5)
  clear h4 h5
  go_wp2_with fail
  go_ret
  exact ⟨⟨_, rfl, H2.out.1⟩, H2.out.2⟩
end Go.Proofs.YteiiaocohpbanaaGreat
end
section
/- Layer 11: a relation of ints and ints: in words of its pairs alone. -/
namespace Go.Proofs.YteiiaocohpbanaaGreat
set_option linter.unusedVariables false
set_option linter.unusedSimpArgs false
open Go Go.RowKit Go.Maps Go.Lib

theorem AddRII.ok {base t : Nat} {X : Nat → Prop} {most : Int} {L : List ((Int) × (Int))} {a : Int} {b : Int} {w : World} {e : Ending} {w' : World} (h : AddRII base t X most L a b w e w') (hn : (a, b) ∉ L) (xs : List (Int)) (h1 : xs.Pairwise (· < ·)) (h2 : ∀ x, x ∈ xs ↔ (a, x) ∈ L) (hl : (xs.length : Int) < most) :
    e = .returned (.int .i64 0) ∧ ∃ X', (∀ j, X' j → X j ∨ w.heap.size ≤ j) ∧ Fr X w w' ∧ RelAtII base w' t X' most (L ++ [(a, b)]) := by
  obtain ⟨X', p1, p2, ⟨q1, _⟩ | ⟨_, q2, _⟩ | ⟨_, _, q3, q4⟩⟩ := h
  · exact absurd q1 hn
  · have := q2 xs h1 h2; omega
  · exact ⟨q3, X', p1, p2, q4⟩
/-- whatever Add does -/
theorem AddRII.any {base t : Nat} {X : Nat → Prop} {most : Int} {L : List ((Int) × (Int))} {a : Int} {b : Int} {w : World} {e : Ending} {w' : World} (h : AddRII base t X most L a b w e w') :
    ∃ X' c L', e = .returned (.int .i64 c) ∧ (∀ j, X' j → X j ∨ w.heap.size ≤ j) ∧ Fr X w w' ∧ RelAtII base w' t X' most L' ∧ (L' = L ∧ (c = 6 ∧ (a, b) ∈ L ∨ c = 7 ∧ (a, b) ∉ L ∧ (∀ xs : List (Int), xs.Pairwise (· < ·) → (∀ x, x ∈ xs ↔ (a, x) ∈ L) → most ≤ xs.length)) ∨
      L' = L ++ [(a, b)] ∧ c = 0 ∧ (a, b) ∉ L ∧ (∀ xs : List (Int), xs.Pairwise (· < ·) → (∀ x, x ∈ xs ↔ (a, x) ∈ L) → (xs.length : Int) < most)) := by
  obtain ⟨X', p1, p2, ⟨q1, q3, q4⟩ | ⟨q1, q2, q3, q4⟩ | ⟨q1, q2, q3, q4⟩⟩ := h
  · exact ⟨X', 6, L, q3, p1, p2, q4, .inl ⟨rfl, .inl ⟨rfl, q1⟩⟩⟩
  · exact ⟨X', 7, L, q3, p1, p2, q4, .inl ⟨rfl, .inr ⟨rfl, q1, q2⟩⟩⟩
  · exact ⟨X', 0, _, q3, p1, p2, q4, .inr ⟨rfl, rfl, q1, q2⟩⟩
section
variable {base : Nat} {w : World} {t : Nat} {X : Nat → Prop} {most : Int} {L : List ((Int) × (Int))}
theorem byAtII (h : RelAtII base w t X most L) (hL : L.length ≤ 100000) {b : Int} (hb : OkKII b) : ∃ xs : List (Int), xs.Pairwise (· < ·) ∧ (∀ a, a ∈ xs ↔ (a, b) ∈ L) ∧ xs.length ≤ L.length ∧ ∀ V, Fr (fun _ => False) w V → Calls Tryz.prog 28 #[.pointer (some ⟨t, 0, none⟩), .int .i64 b] V (AllP xs V) := by
  obtain ⟨b1, b2, T1, T2, h1, h2⟩ := h
  exact ⟨lk T2 b, lkUpII h1.m2 b, fun a => h1.h2 a b, h1.keys.2.2.2 b, fun V hV => relByII (h1.same fun j hj => hV.block j (h1.lt hj).2 fun e => e : RelStII base V t b1 b2 most L T1 T2) hL hb⟩
theorem hasAtII (h : RelAtII base w t X most L) (hL : L.length ≤ 100000) {a : Int} (ha : OkKII a) (b : Int) : Calls Tryz.prog 40 #[.pointer (some ⟨t, 0, none⟩), .int .i64 a, .int .i64 b] w fun e w' => e = .returned (.bool (decide ((a, b) ∈ L))) ∧ ∃ q, w' = w.drewN q := by
  obtain ⟨b1, b2, T1, T2, h1, h2⟩ := h
  exact relHasII h1 hL ha b
theorem countAtII (h : RelAtII base w t X most L) {a : Int} (ha : OkKII a) {xs : List (Int)} (hx : xs.Pairwise (· < ·)) (hm : ∀ b, b ∈ xs ↔ (a, b) ∈ L) : Calls Tryz.prog 41 #[.pointer (some ⟨t, 0, none⟩), .int .i64 a] w fun e w' => e = .returned (.int .i64 xs.length) ∧ w' = w := by
  obtain ⟨b1, b2, T1, T2, h1, h2⟩ := h
  have e := up_ext hx (lkUpII h1.m1 a) fun b => (hm b).trans (h1.h1 a b).symm
  rw [e]
  exact relCountII h1 ha
theorem lenAtII (h : RelAtII base w t X most L) : Calls Tryz.prog 27 #[.pointer (some ⟨t, 0, none⟩)] w fun e w' => e = .returned (.int .i64 L.length) ∧ w' = w := by
  obtain ⟨b1, b2, T1, T2, h1, h2⟩ := h
  exact relLenII h1
theorem RelAtII.below {w' : World} (h : RelAtII base w t X most L) (hb : Below w.heap.size w w') : RelAtII base w' t X most L := h.fr (Fr.of_below (X := fun _ => False) hb) fun _ _ e => e
end
end Go.Proofs.YteiiaocohpbanaaGreat
end
section
/- Layer 11: mathematics of PairStays; Drop of a nil relation. -/
namespace Go.Proofs.YteiiaocohpbanaaGreat
set_option linter.unusedVariables false
set_option linter.unusedSimpArgs false
open Go Go.RowKit Go.Maps Go.Lib
attribute [local go_sem] Oper.semAt_some

/-- the pairs of which these came to 8 -/
structure RotL (L : List (Int × Int)) (pre : List Int) (M : List (Int × Int)) : Prop where
  nd : M.Nodup
  len : M.length = L.length
  mem : ∀ a b, (a, b) ∈ M ↔ (b = 7 ∧ (a, 7) ∈ L ∧ a ∉ pre) ∨ (b = 8 ∧ a ∈ pre)
theorem rot_start {L : List (Int × Int)} (hn : L.Nodup) (h7 : ∀ p ∈ L, p.2 = 7) : RotL L [] L := ⟨hn, rfl, fun a b => by
  constructor
  · intro h
    have := h7 _ h
    simp only at this
    subst this
    exact .inl ⟨rfl, h, by simp⟩
  · rintro (⟨rfl, h, _⟩ | ⟨_, h⟩)
    · exact h
    · cases h⟩
theorem rot_less {L M : List (Int × Int)} {pre : List Int} (h : RotL L pre M) {a : Int} (ha : (a, 7) ∈ L) (hp : a ∉ pre) : (a, 7) ∈ M ∧ (a, 8) ∉ lessLII M a 7 ∧ (∀ b, b ∈ ([] : List Int) ↔ (a, b) ∈ lessLII M a 7) := by
  refine ⟨(h.mem a 7).2 (.inl ⟨rfl, ha, hp⟩), fun e => ?_, fun b => ⟨fun e => (by cases e), fun e => ?_⟩⟩
  · rcases (h.mem a 8).1 (lessMemII.1 e).1 with ⟨e, _⟩ | ⟨_, e⟩
    · omega
    · exact hp e
  · obtain ⟨e1, e2⟩ := lessMemII.1 e
    rcases (h.mem a b).1 e1 with ⟨rfl, _⟩ | ⟨_, e⟩
    · exact absurd rfl e2
    · exact absurd e hp
theorem rot_next {L M : List (Int × Int)} {pre : List Int} (h : RotL L pre M) {a : Int} (ha : (a, 7) ∈ L) (hp : a ∉ pre) : RotL L (pre ++ [a]) (lessLII M a 7 ++ [(a, 8)]) := by
  obtain ⟨q1, q2, q3⟩ := rot_less h ha hp
  have hl := lessLenII h.nd q1
  refine ⟨?_, ?_, fun c b => ?_⟩
  · rw [List.nodup_append]
    refine ⟨h.nd.sublist List.filter_sublist, by simp, fun x hx y hy e => ?_⟩
    rw [List.mem_singleton] at hy
    exact q2 (by rw [← hy, ← e]; exact hx)
  · rw [List.length_append, List.length_singleton, hl, h.len]
  · rw [List.mem_append, lessMemII, List.mem_singleton, h.mem]
    simp only [List.mem_append, List.mem_singleton, Prod.mk.injEq, ne_eq]
    constructor
    · rintro (⟨⟨rfl, h1, h2⟩ | ⟨rfl, h1⟩, h3⟩ | ⟨rfl, rfl⟩)
      · exact .inl ⟨rfl, h1, fun e => by rcases e with e | e; exact h2 e; exact h3 ⟨e, rfl⟩⟩
      · exact .inr ⟨rfl, .inl h1⟩
      · exact .inr ⟨rfl, .inr rfl⟩
    · rintro (⟨rfl, h1, h2⟩ | ⟨rfl, h1 | h1⟩)
      · exact .inl ⟨.inl ⟨rfl, h1, fun e => h2 (.inl e)⟩, fun e => h2 (.inr e.1)⟩
      · exact .inl ⟨.inr ⟨rfl, h1⟩, fun e => by omega⟩
      · exact .inr ⟨h1, rfl⟩
theorem lefts_len {L : List (Int × Int)} {xs : List Int} (hn : L.Nodup) (h7 : ∀ p ∈ L, p.2 = 7) (h1 : xs.Nodup) (h2 : ∀ a, a ∈ xs ↔ (a, 7) ∈ L) : xs.length = L.length := by
  refine Nat.le_antisymm ?_ ?_
  · have := nodup_len (A := xs.map fun a => (a, (7 : Int))) (B := L) (List.Pairwise.map _ (fun _ _ h e => h (Prod.mk.inj e).1) h1) fun p hp => by
      obtain ⟨a, ha, rfl⟩ := List.mem_map.1 hp
      exact (h2 a).1 ha
    simpa using this
  · have := nodup_len (A := L) (B := xs.map fun a => (a, (7 : Int))) hn fun p hp => List.mem_map.2 ⟨p.1, (h2 _).2 (by
      have := h7 p hp
      rw [← this]; exact hp), by rw [← h7 p hp]⟩
    simpa using this
set_option maxRecDepth 100000 in
set_option maxHeartbeats 4000000 in
theorem relDropNil (a : Int) (w : World) : Calls Tryz.prog 11 #[.pointer none, .int .i64 a] w fun e w' => e = .returned (.int .i64 0) ∧ Below w.heap.size w w' := by
  obtain ⟨w1, hw1⟩ : ∃ w1, ((w.alloc (Obj.cells #[Value.pointer none] 25)).alloc (Obj.cells #[Value.int .i64 a] 3)).alloc (Obj.cells #[Value.int .i64 0] 3) = w1 := ⟨_, rfl⟩
  have f1 : Fr (fun _ => False) w w1 := by rw [← hw1]; exact (((Fr.refl _ w).alloc _).alloc _).alloc _
  have z1 : w1.heap.size = w.heap.size + 3 := by rw [← hw1]; simp
  have k0 : w1.heap[w.heap.size]? = some (.cells #[.pointer none] 25 (0, 0)) := by rw [← hw1]; exact blk_alloc (blk_alloc (heap_alloc_new w _) _) _
  have k1 : w1.heap[w.heap.size + 1]? = some (.cells #[.int .i64 a] 3 (0, 0)) := by rw [← hw1]; exact blk_alloc (heap_alloc2_new w _ _) _
  have k2 : w1.heap[w.heap.size + 2]? = some (.cells #[.int .i64 0] 3 (0, 0)) := by
    rw [← hw1]
    have := heap_alloc2_new (w.alloc (Obj.cells #[Value.pointer none] 25)) (Obj.cells #[Value.int .i64 a] 3) (Obj.cells #[Value.int .i64 0] 3)
    rwa [World.size_alloc] at this
  have HOf := Lib.hid (relOfNilIS a w1)
  have c0 := blk_cell k0 0
  have c1 := blk_cell k1 0
  have HW := Lib.hid hw1
  have H := Lib.hid (And.intro f1 (And.intro z1 k2))
  clear hw1 f1 z1 k0 k1 k2
  refine (callsIn_wide (n := 30)).1 ?_
  refine callsIn_of_wp_marks Tryz.func11 rfl trivial ?_ rfl
  simp only [Tryz.ntmps11, List.size_toArray, List.length_cons, List.length_nil, Nat.reduceAdd, Nat.reduceSub, Array.replicate_succ, Array.replicate_zero, List.push_toArray, List.append_toArray, List.nil_append, List.cons_append]
  gi_wp2_with fail
  rw [HW.out]
  refine ⟨trivial, (calls_wide (.inl rfl) HOf.out).mono ?_⟩
  rintro e w2 ⟨⟨F, rfl, hT⟩, hb2⟩
  obtain ⟨f1, z1, k2⟩ := H.out
  have f2 : Fr (fun _ => False) w1 w2 := Fr.of_below hb2
  obtain ⟨Y, hYb, gf, lb, rfl, hseq, hYl, heg⟩ := tellsT_tale (show TaleT w1.heap.size w2 F [] from hT) (by decide)
  have q2 := f2.blk k2 fun e => e
  have z2 := f2.size
  have K := Lib.hid (And.intro f2 (And.intro hYb (And.intro hseq (And.intro hYl (And.intro heg (And.intro q2 z2))))))
  clear f1 z1 k2 f2 hb2 hT hYb hseq hYl heg q2 z2 c0 c1
  gi_wp2_with fail
  obtain ⟨f1, z1, k2⟩ := H.out
  obtain ⟨f2, hYb, hseq, hYl, heg, q2, z2⟩ := K.out
  refine wpIn_rangeF (X := fun _ => False) (Y := Y) (xs := []) (encs := encL) (gf := gf) (lb := lb) (fun pre X1 W => pre = []) (fun _ _ _ _ => False)
    rfl hseq (fun k hk => hk.elim) hYl (by omega) heg (fun _ => rfl)
    (fun s X1 V1 V2 h _ _ => h) (fun c s X1 V1 V2 h => h.elim) rfl ?round ?done (fun _ _ _ _ _ _ _ _ _ _ _ h => h.elim)
  case round =>
    rintro l pre x r X1 V KK rb hl2 hpx hI hG2 hxl hF hlV hK
    simp at hpx
  case done =>
    rintro D X2 V hD hxD hG2 hF _ hdef
    have cc2 := blk_cell (hF.blk q2 fun e => e) 0
    have HQ := Lib.hid (And.intro hD (And.intro hF hdef))
    clear hD hF hdef hxD hG2 f1 z1 k2 f2 hYb hseq hYl heg q2 z2
    gi_wp2_with fail
    obtain ⟨hD, hF, hdef⟩ := HQ.out
    obtain ⟨f1, z1, k2⟩ := H.out
    obtain ⟨f2, hYb, hseq, hYl, heg, q2, z2⟩ := K.out
    refine leaves_one D _ hdef fun w' hf => ⟨_, results_tmp rfl _ _ _, rfl, ?_⟩
    have h3 := ((f1.trans f2).trans hF).below (Nat.le_refl _) fun _ _ e => e.elim
    exact h3.trans (hf.below h3.size fun k _ e => by omega)
end Go.Proofs.YteiiaocohpbanaaGreat
end
section
/- Layer 11: the law's rights. -/
namespace Go.Proofs.YteiiaocohpbanaaGreat
set_option linter.unusedVariables false
set_option linter.unusedSimpArgs false
open Go Go.RowKit Go.Lib Go.Sort Go.Shelf
attribute [local go_sem] Oper.semAt_some

/-- a box with a row of numbers: its blocks are X -/
def Box11R (S base : Nat) (pre : List (List UInt8)) (X : Nat → Prop) (W : World) : Prop := ∃ v, W.heap[S]? = some (.cells #[v] 40 (0, 0)) ∧ OwnT base W v pre ∧ S < base ∧ ∀ k, X k ↔ (k = S ∨ v.ownBlock = some k)
theorem box11R_stays (S base : Nat) : Stays (Box11R S base) := fun pre X V V' ⟨v, h1, h2, h3, h4⟩ hl hf =>
  ⟨v, hf.blk h1 (fun e => e ((h4 S).2 (.inl rfl))), ownT_kept h2 fun g hg => hf.block g (h2.lt g hg).2 fun e => e ((h4 g).2 (.inr hg)), h3, h4⟩
/-- what was told: a row of the call's own, and that it was all -/
def Told11R (xs : List (List UInt8)) (w : World) (e : Ending) (w' : World) : Prop := (∃ v, e = .returned (.tuple #[v, .bool true]) ∧ OwnT w.heap.size w' v xs) ∧ Below w.heap.size w w'
set_option maxRecDepth 100000 in
set_option maxHeartbeats 4000000 in
theorem rights11 {w : World} {po : Option Addr} {a : Int} {xs : List (List UInt8)} (hOf : ∀ V, Fr (fun _ => False) w V → Calls Tryz.prog 32 #[.pointer po, .int .i64 a] V (AllPS xs V)) (hl : xs.length ≤ 1000000) (m : Nat) (hm : xs.length ≤ m) (hm2 : m ≤ 1000000) : Calls Tryz.prog 14 #[.pointer po, .int .i64 a, .int .i64 m] w (Told11R xs w) := by
  obtain ⟨i0, hi, hz0, hz1, hz2⟩ := info_parts Tryz.infoT
  have HOf := Lib.hid hOf
  clear hOf
  refine (callsIn_wide (n := 20)).1 ?_
  refine callsIn_of_wp_marks Tryz.func14 rfl trivial ?_ rfl
  simp only [Tryz.ntmps14, List.size_toArray, List.length_cons, List.length_nil, Nat.reduceAdd, Nat.reduceSub, Array.replicate_succ, Array.replicate_zero, List.push_toArray, List.append_toArray, List.nil_append, List.cons_append]
  gi_wp2_with fail
  obtain ⟨w1, hw1⟩ : ∃ w1, (((w.alloc (Obj.cells #[Value.int IntKind.i64 m] 3)).alloc (Obj.cells #[Value.slice none 0 0] 40)).alloc (Obj.cells #[Value.bool false] 4)).alloc (Obj.cells #[Value.slice none 0 0] 40) = w1 := ⟨_, rfl⟩
  rw [hw1]
  have f0 : Fr (fun _ => False) w w1 := by rw [← hw1]; exact ((((Fr.refl _ w).alloc _).alloc _).alloc _).alloc _
  have HO0 := Lib.hid (HOf.out w1 f0)
  have HF0 := Lib.hid (And.intro hw1 f0)
  clear hw1 f0
  refine ⟨trivial, (calls_wide (.inl rfl) HO0.out).mono ?_⟩
  rintro e w2 ⟨⟨F, rfl, hT⟩, hb20⟩
  obtain ⟨Y, hYb, gf, lb, rfl, hseq, hY, heg⟩ := tellsT_tale (base := w1.heap.size) hT (by omega)
  have hnil : ∀ W, (binOp BinOp.eql 72 (.func (.func gf) #[] lb) Value.nilFunc).run Tryz.prog W = .ok (.bool false) W := fun W => by rfl
  have H20 := Lib.hid (And.intro hb20 (And.intro hYb (And.intro hseq (And.intro hY heg))))
  clear hb20 hYb hseq hY heg hT
  gi_wp2_with (simp only [hnil])
  obtain ⟨hw1, f0⟩ := HF0.out
  obtain ⟨hb20, hYb, hseq, hY, heg⟩ := H20.out
  have hfr20 : Fr (fun _ => False) w1 w2 := Fr.of_below hb20
  have z1 : w1.heap.size = w.heap.size + 4 := by rw [← hw1]; simp
  have f1 : Fr (fun _ => False) w w1 := by rw [← hw1]; exact ((((Fr.refl _ w).alloc _).alloc _).alloc _).alloc _
  have hb0 : w1.heap[w.heap.size]? = some (.cells #[.int .i64 m] 3 (0, 0)) := by rw [← hw1]; exact blk_alloc (blk_alloc (blk_alloc (heap_alloc_new w _) _) _) _
  have hb1 : w1.heap[w.heap.size + 1]? = some (.cells #[.slice none 0 0] 40 (0, 0)) := by rw [← hw1]; exact blk_alloc (blk_alloc (heap_alloc2_new w _ _) _) _
  have hb2 : w1.heap[w.heap.size + 2]? = some (.cells #[.bool false] 4 (0, 0)) := by rw [← hw1]; refine blk_alloc ?_ _; have := heap_alloc2_new (w.alloc (Obj.cells #[Value.int IntKind.i64 m] 3)) (Obj.cells #[Value.slice none 0 0] 40) (Obj.cells #[Value.bool false] 4); rwa [World.size_alloc] at this
  have hb3 : w1.heap[w.heap.size + 3]? = some (.cells #[.slice none 0 0] 40 (0, 0)) := by
    rw [← hw1]
    have := heap_alloc2_new ((w.alloc (Obj.cells #[Value.int IntKind.i64 m] 3)).alloc (Obj.cells #[Value.slice none 0 0] 40)) (Obj.cells #[Value.bool false] 4) (Obj.cells #[Value.slice none 0 0] 40)
    rwa [World.size_alloc, World.size_alloc] at this
  have z2 : w1.heap.size ≤ w2.heap.size := hb20.size
  replace f1 := f1.trans hfr20
  replace hb0 := hfr20.blk hb0 fun e => e
  replace hb1 := hfr20.blk hb1 fun e => e
  replace hb2 := hfr20.blk hb2 fun e => e
  replace hb3 := hfr20.blk hb3 fun e => e
  clear hw1 hfr20 hb20 f0
  have H := Lib.hid (And.intro f1 (And.intro hb0 (And.intro hb1 (And.intro hb2 (And.intro z1 z2)))))
  refine wpIn_rangeF (X := fun k => k = w.heap.size + 3) (Y := Y) (xs := xs) (encs := encL) (gf := gf) (lb := lb) (Box11R (w.heap.size + 3) w1.heap.size) (fun _ _ _ _ => False)
    rfl hseq (fun k hk => ⟨by omega, fun e => by have := hYb k e; omega⟩) hY (by omega) heg (fun _ => rfl)
    (box11R_stays _ _) (fun c s X1 V1 V2 h => h.elim) ⟨_, hb3, ownT_nil _ _, by omega, fun k => by simp [Value.ownBlock]⟩ ?round ?done (fun _ _ _ _ _ _ _ _ _ _ _ h => h.elim)
  case round =>
    rintro l pre x r X1 V K rb hl2 hpx hI hG hxl hF hlV hK
    dsimp only [encL]
    have HK := Lib.hid hK
    have HV := Lib.hid (And.intro hpx (And.intro hI (And.intro hG (And.intro hxl (And.intro hF (And.intro hlV hl2))))))
    clear hK hpx hI hG hxl hF hlV hl2 hYb hseq hY heg f1 hb0 hb1 hb2 hb3 z1 z2
    gi_wp2_with fail
    refine HK.out _ _ (Fr.refl _ _) fun Vb hfb hzb hsb hrb => ?_
    clear HK K
    obtain ⟨hpx, ⟨vb, k3, o3, hSl, hX1⟩, hG, hxl, hF, hlV, hl2⟩ := HV.out
    obtain ⟨f1, hb0, hb1, hb2, z1, z2⟩ := H.out
    have hpl : pre.length + 1 ≤ xs.length := by
      have := congrArg List.length hpx
      simp at this; omega
    have c0 := blk_cell (hfb.blk (hF.blk hb0 (by omega)) (by omega)) 0
    have k3b := hfb.blk k3 (by omega : ¬ w.heap.size + 3 = l)
    have o3b : OwnT w1.heap.size Vb vb pre := ownT_kept o3 fun g hg => hfb.block g (o3.lt g hg).2 fun e => hxl ((hX1 l).2 (.inr (e ▸ hg)))
    have c3 := blk_cell k3b 0
    have hzs : Vb.heap.size = V.heap.size := hzb
    have hbz : w1.heap.size ≤ Vb.heap.size := by omega
    have hor : Vb.ownsRow w1.heap.size 9 1 vb pre.length (pre.map encT) := o3b
    have HO := Lib.hid hor
    have HE := Lib.hid (And.intro hX1 (And.intro hG (And.intro hxl (And.intro hfb (And.intro hrb (And.intro k3b (And.intro o3b (And.intro hzs (And.intro hlV (And.intro hSl hl2))))))))))
    clear hpx k3 o3 hSl hX1 hG hxl hF hlV hl2 f1 hb0 hb1 hb2 z1 z2 k3b o3b hor hfb hzb hsb hrb hzs
    have hlen : ∀ W, (Builtin.len_ #[40] 3 #[vb]).run Tryz.prog W = .ok (.int .i64 pre.length) W := fun W => by obtain ⟨A, cp, rfl⟩ := row_slice HO.out; rfl
    gi_wp2_with (first | (gi_at_builtin; refine Hid.out ?_) | simp only [hlen])
    refine Lib.hid ?_
    refine wpListIn_one_t rfl _ _ 40 rfl w1.heap.size 9 i0 _ 1 16 Tryz.underlying40 hi hz0 hz1 hz2 rfl (by decide) _ _ _ rfl HO.out #[encT x] _ rfl rfl rfl (by intro u hu; simp at hu; subst hu; rfl) (by omega) (by decide) hbz ?_
    intro v1 W2 hown1 hfr1 htie
    obtain ⟨A1, c1', rfl⟩ := row_slice hown1
    have hn3 : ∀ k, vb.ownBlock = some k → k ≠ w.heap.size + 3 := fun k hk e => by have := (HO.out.lt k hk).1; have := HE.out.2.2.2.2.2.2.2.2.2.1; omega
    have e1 : W2.heap[w.heap.size + 3]? = some (.cells #[vb] 40 (0, 0)) := hfr1.blk HE.out.2.2.2.2.2.1 fun e => hn3 _ e rfl
    have g1 := blk_cell e1 0
    have g2 := blk_free e1 0
    have HN := Lib.hid hn3
    clear hn3
    gi_wp2_with fail
    obtain ⟨hX1, hG, hxl, hfb, hrb, k3b, o3b, hzs, hlV, hSl, hl2⟩ := HE.out
    have hn3 := HN.out
    have z2 := H.out.2.2.2.2.2
    have z1 := H.out.2.2.2.2.1
    have hown2 : OwnT w1.heap.size W2 (.slice A1 (pre.length + 1) c1') (pre ++ [x]) := by
      unfold OwnT; rw [List.length_append, List.map_append]; exact hown1
    have hnx : (Value.slice A1 (pre.length + 1) c1').ownBlock ≠ some (w.heap.size + 3) := fun e => by have := (hown2.lt _ e).1; omega
    have hfr : Fr (fun k => k = l ∨ X1 k) V (W2.setCell ⟨w.heap.size + 3, 0, none⟩ (.slice A1 (pre.length + 1) c1')) :=
      (((hfb.mono (Y := fun k => k = l ∨ X1 k) fun k _ e => .inl e).trans3 hfr1 fun k _ e => .inr ((hX1 k).2 (.inr e)))).setCell _ (.inr ((hX1 _).2 (.inl rfl))) _
    refine ⟨fun k => k = w.heap.size + 3 ∨ (Value.slice A1 (pre.length + 1) c1').ownBlock = some k, fun k hk => ?_, hfr, ?_, .slice A1 (pre.length + 1) c1', blk_set e1 0 _, ?_, hSl, fun k => Iff.rfl⟩
    · have hz2 := hfr1.size
      have hsz : (W2.setCell ⟨w.heap.size + 3, 0, none⟩ (.slice A1 (pre.length + 1) c1')).heap.size = W2.heap.size := by simp
      rw [hsz]
      rcases hk with rfl | hk
      · exact ⟨blk_lt e1, fun _ => (hX1 _).2 (.inl rfl)⟩
      · refine ⟨(hown2.lt k hk).2, fun hlt => ?_⟩
        rcases htie k hk with e | e
        · exact (hX1 k).2 (.inr e)
        · omega
    · have hl3 : ¬ vb.ownBlock = some l := fun e => hxl ((hX1 l).2 (.inr e))
      exact blk_other (hfr1.blk hrb hl3) _ (by simp; omega) _
    · exact ownT_kept hown2 fun g hg => heap_setCell_other W2 _ g _ fun e => by simp at e; exact hnx (e ▸ hg)
  case done =>
    rintro D X2 V hD hxD hG hF ⟨v, k3, o3, hSl, hX2⟩ hdef
    obtain ⟨A, cp, rfl⟩ := row_slice o3
    have k1 := hF.blk hb1 (by omega)
    have k2 := hF.blk hb2 (by omega)
    have c1 := blk_cell k1 0
    have f1' := blk_free k1 0
    have c2 := blk_cell k2 0
    have f2 := blk_free k2 0
    have c3 := blk_cell k3 0
    have HE := Lib.hid (And.intro k1 (And.intro k2 (And.intro k3 (And.intro o3 (And.intro hF (And.intro hdef (And.intro hxD (And.intro hX2 (And.intro hSl hD)))))))))
    clear k1 k2 k3 o3 hF hdef hxD hX2 hSl hD hG hYb hseq hY heg f1 hb0 hb1 hb2 hb3 z1 z2
    gi_wp2_with fail
    obtain ⟨k1, k2, k3, o3, hF, hdef, hxD, hX2, hSl, hD⟩ := HE.out
    obtain ⟨f1, hb0, hb1, hb2, z1, z2⟩ := H.out
    obtain ⟨W3, hW3⟩ : ∃ W3, (V.setCell ⟨w.heap.size + 1, 0, none⟩ (Value.slice A xs.length cp)).setCell ⟨w.heap.size + 1 + 1, 0, none⟩ (Value.bool true) = W3 := ⟨_, rfl⟩
    rw [hW3]
    have a1 : W3.heap[w.heap.size + 1]? = some (.cells #[.slice A xs.length cp] 40 (0, 0)) := by
      rw [← hW3]
      exact blk_other (blk_set k1 0 _) _ (by simp) _
    have a2 : W3.heap[w.heap.size + 2]? = some (.cells #[.bool true] 4 (0, 0)) := by
      rw [← hW3]
      exact blk_set (blk_other k2 _ (by simp) _) 0 _
    have a3 : W3.heap[D]? = some (.deferred (some [])) := by
      rw [← hW3]
      exact blk_other (blk_other hdef _ (by simp; omega) _) _ (by simp; omega) _
    have a4 : OwnT w1.heap.size W3 (.slice A xs.length cp) xs := ownT_kept o3 fun g hg => by
      have := (o3.lt g hg).1
      rw [← hW3]
      exact (heap_setCell_other _ _ g _ (by simp; omega)).trans (heap_setCell_other _ _ g _ (by simp; omega))
    have a5 : Below w.heap.size w W3 := by
      have h5 : Below w.heap.size w V := (f1.mono (Y := fun k => k = w.heap.size + 3) (fun _ _ h => h.elim)).trans3 hF (fun k _ e => e) |>.below (Nat.le_refl _) fun k hk e => by omega
      rw [← hW3]
      exact (h5.setCell (by simp) _).setCell (by simp; omega) _
    refine leaves_one D _ a3 fun w' hf => ?_
    have e1 := hf.blk a1 (by omega)
    have e2 := hf.blk a2 (by omega)
    refine ⟨_, results_box2 rfl _ _ (w.heap.size + 1) (w.heap.size + 2) _ _ _ _ rfl (blk_cell e1 0) rfl (blk_cell e2 0) Tryz.underlying40 rfl Tryz.underlying4 rfl, ⟨.slice A xs.length cp, rfl, ?_⟩, a5.trans (hf.below a5.size fun k _ e => by omega)⟩
    exact ownT_base (ownT_kept a4 fun g hg => hf.block g (a4.lt g hg).2 fun e => hxD ((hX2 D).2 (.inr (e ▸ hg)))) (by omega)
end Go.Proofs.YteiiaocohpbanaaGreat
end
section
/- A law's arguments: slices of texts, of structs, opened; what was only read reads as it read. -/
namespace Go.Proofs.YteiiaocohpbanaaGreat
open Go Go.ChangeShapes Go.WideShapes Go.RowKit Go.Deep

section
variable {H : Type} {enc : TypeId × Value → H} {P : Program} {W W' : World}

/-- is each of these types one that can be read again? -/
def readAll (P : Program) (ts : List TypeId) : Bool := ts.all fun t => P.readableRec t && decide (t < P.types.size)
theorem stays_all (hl : laidOutB P = true) (hB : Below W.heap.size W W') {sp : Nat → Bool} : ∀ (ts : List TypeId) (vs : List Value) (ds : List (DataW H)) (ps : List MemPlace), readAll P ts = true →
    DataW.TrodAll enc P W 0 (fun _ => true) true ts vs ds ps → (∀ x ∈ ps, x.block < W.heap.size) → (∀ x ∈ ps, sp x.block = true) → DataW.TrodAll enc P W' 0 sp true ts vs ds ps
  | [], vs, ds, ps, _, h, _, _ => by
    obtain ⟨rfl, rfl, rfl⟩ := trodAll_nil h
    exact trodAll_mk0
  | t :: ts, vs, ds, ps, hr, h, hlt, hs => by
    obtain ⟨v, vs1, d, ds1, p, q, rfl, rfl, rfl, h1, h2⟩ := trodAll_cons h
    unfold readAll at hr
    rw [List.all_cons, Bool.and_eq_true, Bool.and_eq_true] at hr
    obtain ⟨⟨hr1, hr2⟩, hr3⟩ := hr
    refine trodAll_cons_mk ?_ (stays_all hl hB ts vs1 ds1 q hr3 h2 (fun x hx => hlt x (by simp [hx])) (fun x hx => hs x (by simp [hx])))
    exact WideElems.Trod_stays hl hr1 (of_decide_eq_true hr2) h1 (fun x hx => hB.same (hlt x (by simp [hx]))) (fun x hx => hs x (by simp [hx]))

theorem spot_of {a : Addr} {v : Value} (h : W.cell? (a.add 0) = some v) : ∃ g o, a = ⟨g, o, none⟩ := by
  have := World.cell?_spot h
  obtain ⟨g, o, s⟩ := a
  simp [Addr.add] at this
  subst this
  exact ⟨g, o, rfl⟩
theorem add_at (g o n : Nat) : (⟨g, o, none⟩ : Addr).add n = ⟨g, o + n, none⟩ := by
  unfold Addr.add
  split
  · simp_all
  · rfl

theorem open_texts {t e : TypeId} {base : Nat} {v : Value} {d : DataW H} {p : List MemPlace} (ht : P.underlying t = some (.slice e)) (he : P.underlying e = some .string) (hc : P.cellsOf e = 1)
    (hval : Value.okWide P W .any base t v) (h : DataW.Trod enc P W 0 (fun _ => true) true t v d p) :
    ∃ (A : Option Addr) (ss : List ByteArray) (c : Nat), v = .slice A ss.length c ∧ ss.length ≤ c ∧ c ≤ maxLen ∧ (∀ s ∈ ss, s.size ≤ maxLen) ∧ (0 < ss.length → ∃ g o, A = some ⟨g, o, none⟩ ∧ ∀ i (h : i < ss.length), W.cell? ⟨g, o + i, none⟩ = some (.string ss[i])) := by
  obtain ⟨A, n, c, rfl⟩ := okWide_slice ht hval
  obtain ⟨fuel, hf⟩ := h
  rcases open_strs ht he hc hf with ⟨hcs, _⟩ | ⟨a, len, cap, m, Sx, hcs, _, hl, hm, hmm, _, hcell⟩
  · have h3 : A = none ∧ n = 0 ∧ c = 0 := by simpa [Value.cells] using hcs
    obtain ⟨rfl, rfl, rfl⟩ := h3
    exact ⟨none, [], 0, rfl, Nat.le_refl _, by unfold maxLen; omega, by simp, fun h => absurd h (by simp)⟩
  · have h3 : A = some a ∧ n = len ∧ c = cap := by simpa [Value.cells] using hcs
    obtain ⟨rfl, rfl, rfl⟩ := h3
    simp only [if_true] at hmm
    refine ⟨some a, (List.range n).map Sx, c, by simp, by simpa using hl, hm, ?_, ?_⟩
    · intro s hs
      simp only [List.mem_map, List.mem_range] at hs
      obtain ⟨i, hi, rfl⟩ := hs
      exact (hcell i (by omega)).2
    · intro hpos
      simp only [List.length_map, List.length_range] at hpos
      obtain ⟨g, o, rfl⟩ := spot_of (hcell 0 (by omega)).1
      refine ⟨g, o, rfl, fun i hi => ?_⟩
      simp only [List.length_map, List.length_range] at hi
      have := (hcell i (by omega)).1
      rw [add_at] at this
      simpa using this

/-- structs of three fields: a boolean, a byte, a text -/
theorem open_bus {t e tb tu ts : TypeId} {fs : Array Field} {base : Nat} {v : Value} {d : DataW H} {p : List MemPlace} (ht : P.underlying t = some (.slice e)) (he : P.underlying e = some (.struct fs)) (hc : P.cellsOf e = 3)
    (hfs : fs.toList.map (fun f => (f.type, f.offset)) = [(tb, 0), (tu, 1), (ts, 2)]) (ub : P.underlying tb = some .bool) (uu : P.underlying tu = some (.int .u8)) (us : P.underlying ts = some .string) (kb : P.cellsOf tb = 1) (ku : P.cellsOf tu = 1) (ks : P.cellsOf ts = 1)
    (hval : Value.okWide P W .any base t v) (h : DataW.Trod enc P W 0 (fun _ => true) true t v d p) :
    ∃ (A : Option Addr) (l : List (Bool × UInt8 × ByteArray)) (c : Nat), v = .slice A l.length c ∧ l.length ≤ c ∧ c ≤ maxLen ∧ (∀ x ∈ l, x.2.2.size ≤ maxLen) ∧
      (0 < l.length → ∃ g o, A = some ⟨g, o, none⟩ ∧ ∀ i (h : i < l.length), W.cell? ⟨g, o + i * 3, none⟩ = some (.bool l[i].1) ∧ W.cell? ⟨g, o + i * 3 + 1, none⟩ = some (.int .u8 l[i].2.1.toNat) ∧ W.cell? ⟨g, o + i * 3 + 2, none⟩ = some (.string l[i].2.2)) := by
  obtain ⟨A, n, c, rfl⟩ := okWide_slice ht hval
  obtain ⟨fuel, hf⟩ := h
  rcases open_slice ht hf with ⟨hcs, _⟩ | ⟨a, len, cap, m, k, D, Pl, hcs, _, hl, hm, hmm, _, hel⟩
  · have h3 : A = none ∧ n = 0 ∧ c = 0 := by simpa [Value.cells] using hcs
    obtain ⟨rfl, rfl, rfl⟩ := h3
    exact ⟨none, [], 0, rfl, Nat.le_refl _, by unfold maxLen; omega, by simp, fun h => absurd h (by simp)⟩
  · have h3 : A = some a ∧ n = len ∧ c = cap := by simpa [Value.cells] using hcs
    obtain ⟨rfl, rfl, rfl⟩ := h3
    simp only [if_true] at hmm
    have each : ∀ i, i < n → ∃ x : Bool × UInt8 × ByteArray, x.2.2.size ≤ maxLen ∧ W.cell? ((a.add (i * 3)).add 0) = some (.bool x.1) ∧ W.cell? ((a.add (i * 3)).add 1) = some (.int .u8 x.2.1.toNat) ∧ W.cell? ((a.add (i * 3)).add 2) = some (.string x.2.2) := by
      intro i hi
      obtain ⟨cs', h1, h2⟩ := hel i (by omega)
      rw [hc] at h1
      obtain ⟨_, hlen, hat⟩ := World.cells?_some h1
      obtain ⟨xs, k', _, _, _, hxl, hx⟩ := DataW.trod_struct he h2
      obtain ⟨fl⟩ := fs
      rcases fl with _ | ⟨f0, _ | ⟨f1, _ | ⟨f2, _ | ⟨f3, fl⟩⟩⟩⟩
      all_goals simp only [List.map_nil, List.map_cons, List.cons.injEq, Prod.mk.injEq, reduceCtorEq, and_false, and_true, false_and] at hfs
      obtain ⟨⟨t0, z0⟩, ⟨t1, z1⟩, t2, z2⟩ := hfs
      match cs', hlen with
      | [v0, v1, v2], _ =>
        match xs, hxl with
        | [y0, y1, y2], _ =>
          have g0 := hx 0 f0 rfl
          have g1 := hx 1 f1 rfl
          have g2 := hx 2 f2 rfl
          rw [t0, z0, kb] at g0
          rw [t1, z1, ku] at g1
          rw [t2, z2, ks] at g2
          obtain ⟨b, e0, _⟩ := DataW.trod_bool ub g0
          obtain ⟨u, e1, _, hw⟩ := DataW.trod_int uu g1
          obtain ⟨s, e2, _, hs⟩ := DataW.trod_string us g2
          simp only [List.drop_zero, List.drop_succ_cons, List.take_succ_cons, List.take_zero, List.cons.injEq, and_true] at e0 e1 e2
          subst e0; subst e1; subst e2
          simp only [Lit.wf, IntKind.has, Bool.and_eq_true, decide_eq_true_eq] at hw
          have hu0 : 0 ≤ u ∧ u ≤ 255 := ⟨hw.1, hw.2⟩
          have hu : ((UInt8.ofNat u.toNat).toNat : Int) = u := by
            rw [UInt8.toNat_ofNat']
            have : u.toNat < 256 := by omega
            rw [Nat.mod_eq_of_lt (by simpa using this)]
            omega
          refine ⟨(b, UInt8.ofNat u.toNat, s), hs, (hat 0 (by omega)).trans rfl, (hat 1 (by omega)).trans ?_, (hat 2 (by omega)).trans rfl⟩
          show some (Value.int .u8 u) = some (.int .u8 ((UInt8.ofNat u.toNat).toNat : Int))
          rw [hu]
    obtain ⟨F, hF⟩ := choose_lt each
    refine ⟨some a, (List.range n).map F, c, by simp, by simpa using hl, hm, ?_, ?_⟩
    · intro x hx
      simp only [List.mem_map, List.mem_range] at hx
      obtain ⟨i, hi, rfl⟩ := hx
      exact (hF i hi).1
    · intro hpos
      simp only [List.length_map, List.length_range] at hpos
      have h00 := (hF 0 hpos).2.1
      have h000 : W.cell? (a.add 0) = some (.bool (F 0).1) := by simpa [Addr.add] using h00
      obtain ⟨g, o, rfl⟩ := spot_of h000
      refine ⟨g, o, rfl, fun i hi => ?_⟩
      simp only [List.length_map, List.length_range] at hi
      obtain ⟨_, q0, q1, q2⟩ := hF i hi
      rw [add_at, add_at] at q0 q1 q2
      simpa using ⟨q0, q1, q2⟩
end
end Go.Proofs.YteiiaocohpbanaaGreat
end
section
/- An argument that is a slice of anything flat, opened. -/
namespace Go.Proofs.YteiiaocohpbanaaGreat
open Go Go.ChangeShapes Go.WideShapes Go.RowKit Go.Deep

section
variable {H : Type} {enc : TypeId × Value → H} {P : Program} {W : World}
theorem open_elems {α : Type} [Inhabited α] {t e : TypeId} {base k : Nat} {v : Value} {d : DataW H} {p : List MemPlace} (hk : 0 < k) (encf : α → List Value) (G : α → Prop) (ht : P.underlying t = some (.slice e)) (hc : P.cellsOf e = k)
    (hdec : ∀ n cs y, cs.length = k → DataW.trod enc P W 0 (fun _ => true) true n e cs = some y → ∃ x, cs = encf x ∧ G x)
    (hval : Value.okWide P W .any base t v) (h : DataW.Trod enc P W 0 (fun _ => true) true t v d p) :
    ∃ (A : Option Addr) (l : List α) (c : Nat), v = .slice A l.length c ∧ l.length ≤ c ∧ c ≤ maxLen ∧ (∀ x ∈ l, G x) ∧
      (0 < l.length → ∃ g o, A = some ⟨g, o, none⟩ ∧ g < W.heap.size ∧ ∀ i (h : i < l.length) j u, (encf l[i])[j]? = some u → W.cell? ⟨g, o + i * k + j, none⟩ = some u) := by
  obtain ⟨A, n, c, rfl⟩ := okWide_slice ht hval
  obtain ⟨fuel, hf⟩ := h
  rcases open_slice ht hf with ⟨hcs, _⟩ | ⟨a, len, cap, m, n', D, Pl, hcs, _, hl, hm, hmm, _, hel⟩
  · have h3 : A = none ∧ n = 0 ∧ c = 0 := by simpa [Value.cells] using hcs
    obtain ⟨rfl, rfl, rfl⟩ := h3
    exact ⟨none, [], 0, rfl, Nat.le_refl _, by unfold maxLen; omega, by simp, fun h => absurd h (by simp)⟩
  · have h3 : A = some a ∧ n = len ∧ c = cap := by simpa [Value.cells] using hcs
    obtain ⟨rfl, rfl, rfl⟩ := h3
    simp only [if_true] at hmm
    have each : ∀ i, i < n → ∃ x : α, G x ∧ (encf x).length = k ∧ ∀ j u, (encf x)[j]? = some u → W.cell? ((a.add (i * k)).add j) = some u := by
      intro i hi
      obtain ⟨cs', h1, h2⟩ := hel i (by omega)
      rw [hc] at h1
      obtain ⟨_, hlen, hat⟩ := World.cells?_some h1
      obtain ⟨x, rfl, hg⟩ := hdec _ _ _ hlen h2
      refine ⟨x, hg, hlen, fun j u hu => ?_⟩
      have hj : j < k := by
        rw [← hlen]; exact (List.getElem?_eq_some_iff.1 hu).1
      rw [hat j hj, hu]
    obtain ⟨F, hF⟩ := choose_lt each
    refine ⟨some a, (List.range n).map F, c, by simp, by simpa using hl, hm, ?_, ?_⟩
    · intro x hx
      simp only [List.mem_map, List.mem_range] at hx
      obtain ⟨i, hi, rfl⟩ := hx
      exact (hF i hi).1
    · intro hpos
      simp only [List.length_map, List.length_range] at hpos
      obtain ⟨_, hl0, h0⟩ := hF 0 hpos
      have hq := h0 0 ((encf (F 0))[0]'(by omega)) (List.getElem?_eq_getElem (by omega))
      have hq : W.cell? (a.add 0) = some ((encf (F 0))[0]'(by omega)) := by
        have e : (a.add (0 * k)).add 0 = a.add 0 := by
          obtain ⟨b, o, s⟩ := a
          cases s <;> simp [Addr.add]
        rwa [e] at hq
      obtain ⟨g, o, rfl⟩ := spot_of hq
      have hg : g < W.heap.size := by
        have := block_lt_of_cell hq
        simpa [add_at] using this
      refine ⟨g, o, rfl, hg, fun i hi j u hu => ?_⟩
      simp only [List.length_map, List.length_range] at hi
      obtain ⟨_, _, hh⟩ := hF i hi
      have := hh j u (by simpa using hu)
      rwa [add_at, add_at] at this
end
end Go.Proofs.YteiiaocohpbanaaGreat
end
section
/- Arguments that are slices of flat things, opened (by gendec.py). -/
namespace Go.Proofs.YteiiaocohpbanaaGreat
set_option linter.unusedVariables false
set_option linter.unusedSimpArgs false
open Go Go.ChangeShapes Go.WideShapes Go.RowKit

abbrev zinT : Type := Int
/-- its cells -/
def zinL (x : zinT) : List Value := [.int .i64 x]
def zinG (x : zinT) : Prop := (Lit.int .i64 x).wf = true
set_option maxRecDepth 1000000 in
theorem dec_zin {H : Type} {enc : TypeId × Value → H} {W : World} {base : Nat} {spare : Nat → Bool} {held : Bool} {fuel : Nat} {cs : List Value} {y : DataW H × List MemPlace} (hlen : cs.length = 1) (hf : DataW.trod enc Tryz.prog W base spare held fuel 3 cs = some y) : ∃ x, cs = zinL x ∧ zinG x := by
  obtain ⟨m0, q0, _, z0⟩ := DataW.trod_int Tryz.underlying3 hf
  exact ⟨m0, q0, z0⟩
set_option maxRecDepth 1000000 in
theorem open_zins {H : Type} {enc : TypeId × Value → H} {W : World} {base : Nat} {v : Value} {d : DataW H} {p : List MemPlace} (hval : Value.okWide Tryz.prog W .any base 43 v) (h : DataW.Trod enc Tryz.prog W 0 (fun _ => true) true 43 v d p) :
    ∃ (A : Option Addr) (l : List zinT) (c : Nat), v = .slice A l.length c ∧ l.length ≤ c ∧ c ≤ maxLen ∧ (∀ x ∈ l, zinG x) ∧ (0 < l.length → ∃ g o, A = some ⟨g, o, none⟩ ∧ g < W.heap.size ∧ ∀ i (h : i < l.length) j u, (zinL l[i])[j]? = some u → W.cell? ⟨g, o + i * 1 + j, none⟩ = some u) := by
  have hc : Tryz.prog.cellsOf 3 = 1 := by kernel_rfl
  exact open_elems (by decide) zinL zinG Tryz.underlying43 hc (fun _ _ _ hl hf => dec_zin hl hf) hval h
abbrev zenT : Type := ByteArray × Int
/-- its cells -/
def zenL (x : zenT) : List Value := [.string x.1, .int .i64 x.2]
def zenG (x : zenT) : Prop := x.1.size ≤ maxLen ∧ (Lit.int .i64 x.2).wf = true


abbrev zacT : Type := Int × ByteArray × Int
/-- its cells -/
def zacL (x : zacT) : List Value := [.int .i64 x.1, .string x.2.1, .int .i64 x.2.2]
def zacG (x : zacT) : Prop := (Lit.int .i64 x.1).wf = true ∧ x.2.1.size ≤ maxLen ∧ (Lit.int .i64 x.2.2).wf = true


abbrev ztxT : Type := ByteArray
/-- its cells -/
def ztxL (x : ztxT) : List Value := [.string x]
def ztxG (x : ztxT) : Prop := x.size ≤ maxLen
set_option maxRecDepth 1000000 in
theorem dec_ztx {H : Type} {enc : TypeId × Value → H} {W : World} {base : Nat} {spare : Nat → Bool} {held : Bool} {fuel : Nat} {cs : List Value} {y : DataW H × List MemPlace} (hlen : cs.length = 1) (hf : DataW.trod enc Tryz.prog W base spare held fuel 9 cs = some y) : ∃ x, cs = ztxL x ∧ ztxG x := by
  obtain ⟨s0, q0, _, z0⟩ := DataW.trod_string Tryz.underlying9 hf
  exact ⟨s0, q0, z0⟩
set_option maxRecDepth 1000000 in
theorem open_ztxs {H : Type} {enc : TypeId × Value → H} {W : World} {base : Nat} {v : Value} {d : DataW H} {p : List MemPlace} (hval : Value.okWide Tryz.prog W .any base 40 v) (h : DataW.Trod enc Tryz.prog W 0 (fun _ => true) true 40 v d p) :
    ∃ (A : Option Addr) (l : List ztxT) (c : Nat), v = .slice A l.length c ∧ l.length ≤ c ∧ c ≤ maxLen ∧ (∀ x ∈ l, ztxG x) ∧ (0 < l.length → ∃ g o, A = some ⟨g, o, none⟩ ∧ g < W.heap.size ∧ ∀ i (h : i < l.length) j u, (ztxL l[i])[j]? = some u → W.cell? ⟨g, o + i * 1 + j, none⟩ = some u) := by
  have hc : Tryz.prog.cellsOf 9 = 1 := by kernel_rfl
  exact open_elems (by decide) ztxL ztxG Tryz.underlying40 hc (fun _ _ _ hl hf => dec_ztx hl hf) hval h
end Go.Proofs.YteiiaocohpbanaaGreat
end
section
/- A region that draws its order, anywhere, a loop's round over a function too: what only reads, in whatever order; then what must come last, in its order. -/
namespace Go.Proofs.YteiiaocohpbanaaGreat
open Go

section
variable {F : Fence} {n : Nat} {P : Program} {ops : Array Oper} {md : Region.Mode} {C : World → Prop}

/-- no operation puts a call off -/
def noDefer (ops : Array Oper) : Bool := ops.all fun o => match o.op with | .defer _ => false | _ => true
theorem noDefer_spec (h : noDefer ops = true) {i : Nat} {o : Oper} (ho : ops[i]? = some o) : ∀ c, o.op ≠ .defer c := by
  intro c hc
  have := Array.all_eq_true.1 h i (Array.getElem?_eq_some_iff.1 ho).1
  rw [(Array.getElem?_eq_some_iff.1 ho).2, hc] at this
  cases this

theorem quiet_wpIn {o : Oper} {a : Act} {K : Act → Prop} {K' : Act → World → Prop} {Q' : Exit → Act → World → Prop} {w : World} (hd : ∀ c, o.op ≠ .defer c) (hw : C w) (h : ∀ a w', C w' → K a → K' a w')
    (ha : o.askedIn F P a C) (hh : o.quietIn F n P a C K) : o.wpIn F n P a w K' Q' := by
  obtain ⟨v, h1, h2⟩ := hh
  have h3 := h1 w hw
  unfold Oper.quietAtIn at h3
  refine ⟨ha w hw, ?_⟩
  rw [Oper.semAt_eq _ _ _ hd]
  generalize (execOp a.eval o).run P w = r at h3 ⊢
  match r, h3 with
  | .ok (.value u) w', h3 =>
    obtain ⟨rfl, rfl⟩ := h3
    exact h _ _ hw h2
  | .ok .skip w', h3 =>
    obtain ⟨rfl, rfl⟩ := h3
    exact h _ _ hw h2
  | .ok (.enter f args) w', h3 =>
    obtain ⟨rfl, hdep, hc⟩ := h3
    exact ⟨hdep, hc.mono fun e w'' hx => by obtain ⟨rfl, hw''⟩ := hx; exact h _ _ hw'' h2⟩

theorem quiet_wpOpIn {i : Nat} {a : Act} {K : Act → Prop} {K' : Act → World → Prop} {Q' : Exit → Act → World → Prop} {w : World} (hnd : noDefer ops = true) (hC : C w) (h : ∀ a w', C w' → K a → K' a w')
    (hh : qOpIn F n P ops C i K a) : wpOpIn F n P ops Q' i K' a w := by
  unfold qOpIn at hh
  unfold wpOpIn
  cases ho : ops[i]? with
  | none => simp only [ho] at hh ⊢; exact h _ _ hC hh
  | some o =>
    simp only [ho] at hh ⊢
    obtain ⟨ha, hh⟩ := hh
    by_cases hw : Region.wanted o (yielded ops a.tmps) = true
    · simp only [hw, if_true] at hh ⊢
      exact quiet_wpIn (noDefer_spec hnd ho) hC h ha hh
    · simp only [hw] at hh ⊢
      exact ⟨ha w hC, h _ _ hC hh⟩

/-- the head of a region: so many operations, whatever comes up, each below m -/
def headQ (F : Fence) (n : Nat) (P : Program) (md : Region.Mode) (ops : Array Oper) (C : World → Prop) (m : Nat) (L : Array Bool → Act → Prop) : Nat → Array Bool → Act → Prop
  | 0, listed, a => L listed a
  | f + 1, listed, a =>
    Region.ready md ops listed ≠ [] ∧ ∀ i ∈ Region.ready md ops listed, i < m ∧ qOpIn F n P ops C i (headQ F n P md ops C m L f (listed.setIfInBounds i true)) a

theorem wpAnyIn_of_headQ {m g : Nat} {L : Array Bool → Act → Prop} {Q' : Exit → Act → World → Prop} (hnd : noDefer ops = true) (hL : ∀ listed a w, C w → L listed a → wpAnyIn F n P md ops Q' g listed a w) :
    ∀ (f : Nat) (listed : Array Bool) (a : Act) (w : World), C w → headQ F n P md ops C m L f listed a → wpAnyIn F n P md ops Q' (f + g) listed a w
  | 0, listed, a, w, hw, h => by rw [Nat.zero_add]; exact hL _ _ _ hw h
  | f + 1, listed, a, w, hw, h => by
    rw [show f + 1 + g = (f + g) + 1 by omega]
    exact ⟨fun h0 => absurd h0 h.1, fun i hi => quiet_wpOpIn hnd hw (fun a' w' hw' h' => wpAnyIn_of_headQ hnd hL f _ a' w' hw' h') (h.2 i hi).2⟩

theorem headQ_first {m i : Nat} {oi : Oper} {v : Value} {L : Array Bool → Act → Prop} (hi : ops[i]? = some oi) (hsel : ∀ (j : Nat) (o : Oper) cs b, ops[j]? = some o → o.op ≠ .select cs b)
    (hs : Region.sinkB md ops m = true) (hc : Region.chainB md ops m = true) (hn : m < ops.size) (hin : i < m)
    (hdone : ∀ listed a, L listed a → ∀ j ∈ Region.ready md ops listed, m ≤ j) :
    ∀ (f : Nat) (listed : Array Bool) (a : Act), HeadInv md ops m listed →
      (∀ j oj, ops[j]? = some oj → j ≠ i → listed.getD j true = false → (∀ e ∈ oj.after, Region.binds md e = true → e.on ≠ i) → oi.apart ops oj = true) →
      i ∈ Region.ready md ops listed → YieldsQuiet F n P ops C oi v a →
      headQ F n P md ops C m L f (listed.setIfInBounds i true) (a.put oi.dst v) → headQ F n P md ops C m L (f + 1) listed a := by
  intro f
  induction f with
  | zero =>
    intro listed a inv _ hr hy H
    have hun := (mem_ready.1 hr).1
    refine ⟨fun h => (by rw [h] at hr; cases hr), fun j hj => ?_⟩
    have hjn : j < m := Nat.lt_of_not_le fun h => tail_waits hs hc hn inv _ i rfl hin hun j h hj
    refine ⟨hjn, ?_⟩
    by_cases hji : j = i
    · subst hji; exact hy.qOpIn hi H
    · exact absurd (hdone _ _ H j (ready_mono hj hji)) (by omega)
  | succ f ih =>
    intro listed a inv hfree hr hy H
    have hun := (mem_ready.1 hr).1
    refine ⟨fun h => (by rw [h] at hr; cases hr), fun j hj => ?_⟩
    have hjn : j < m := Nat.lt_of_not_le fun h => tail_waits hs hc hn inv _ i rfl hin hun j h hj
    refine ⟨hjn, ?_⟩
    by_cases hji : j = i
    · subst hji; exact hy.qOpIn hi H
    · have h1 := (H.2 j (ready_mono hj hji)).2
      obtain ⟨hjun, oj, hoj, hall⟩ := mem_ready.1 hj
      have hnot : ∀ e ∈ oj.after, Region.binds md e = true → e.on ≠ i := fun e he hb heq => by
        have h1 := hall e he hb
        rw [heq, getD_both hun] at h1
        cases h1
      have h2 := qOpIn_put hoj (hfree j oj hoj hji hjun hnot) (fun cs b => hsel i oi cs b hi) (fun cs b => hsel j oj cs b hoj) hy h1
      have hfree' : ∀ k ok, ops[k]? = some ok → k ≠ i → (listed.setIfInBounds j true).getD k true = false →
          (∀ e ∈ ok.after, Region.binds md e = true → e.on ≠ i) → oi.apart ops ok = true := fun k ok hk hki hun hno => by
        refine hfree k ok hk hki ?_ hno
        by_cases hjk : j = k
        · subst hjk; exact hjun
        · rw [getD_set_ne true hjk] at hun; exact hun
      refine qOpIn_mono (fun a' h3 => ih (listed.setIfInBounds j true) a' (inv.set hj hjn) hfree' (ready_mono hr (Ne.symm hji)) h3.1 ?_) h2
      rw [Array.setIfInBounds_comm _ _ hji]
      exact h3.2

theorem wpAnyIn_of_seq {Q' : Exit → Act → World → Prop} : ∀ (l : List Oper) (k : Nat) (listed : Array Bool) (a : Act) (w : World), (∀ j, l[j]? = ops[k + j]?) →
    Region.seqB md ops l.length k listed = true → wpListIn F n P ops Q' l a w → wpAnyIn F n P md ops Q' l.length listed a w
  | [], _, _, _, _, _, hB, h => ⟨by simpa [Region.seqB] using hB, h⟩
  | o :: l, k, listed, a, w, hl, hB, h => by
    have h0 : ops[k]? = some o := by simpa using (hl 0).symm
    simp only [List.length_cons, Region.seqB, Bool.and_eq_true, decide_eq_true_eq] at hB
    refine ⟨fun h1 => (by rw [hB.1] at h1; cases h1), fun i hi => ?_⟩
    rw [hB.1] at hi
    have hik : i = k := by simpa using hi
    subst hik
    have hw : wpOpIn F n P ops Q' i (wpListIn F n P ops Q' l) a w := by unfold wpOpIn; simp only [h0]; exact h
    exact wpOpIn_mono (fun a' w' h' => wpAnyIn_of_seq l (i + 1) _ a' w' (fun j => by have := hl (j + 1); simpa [Nat.add_assoc, Nat.add_comm 1 j] using this) hB.2 h') hw

theorem headQ_lex {m g : Nat} {Lq : Act → Prop} (hsel : Region.noSelect ops = true) (hs : Region.sinkB md ops m = true) (hc : Region.chainB md ops m = true) (hn : m < ops.size) :
    ∀ (l : List Oper) (k : Nat) (listed : Array Bool) (a : Act), (∀ j, j < l.length → l[j]? = ops[k + j]?) → k + l.length = m → HeadInv md ops m listed →
    Region.lexHead md ops g l.length k listed = true → wpQuietIn F n P ops C Lq l a →
    headQ F n P md ops C m (fun listed' a' => Region.seqB md ops g m listed' = true ∧ Lq a') l.length listed a
  | [], k, listed, a, _, hk, _, hB, h => by
    have : k = m := by simpa using hk
    subst this
    exact ⟨by simpa [Region.lexHead] using hB, h⟩
  | o :: l, k, listed, a, hl, hk, inv, hB, h => by
    have h0 : ops[k]? = some o := by simpa using (hl 0 (by simp)).symm
    simp only [List.length_cons, Region.lexHead, Bool.and_eq_true] at hB
    obtain ⟨⟨hr, hf⟩, hB'⟩ := hB
    have hkn : k < m := by simp only [List.length_cons] at hk; omega
    have hr' : k ∈ Region.ready md ops listed := by simpa using hr
    have hst : qOpIn F n P ops C k (wpQuietIn F n P ops C Lq l) a := by unfold qOpIn; simp only [h0]; exact h
    obtain ⟨v, hy, hK⟩ := yieldsQuiet_of_qOpIn h0 hst
    exact headQ_first h0 (Region.noSelect_spec hsel) hs hc hn hkn (fun listed' a' hL => seqB_ready hL.1) l.length listed a inv (Region.free_spec h0 hf) hr' hy
      (headQ_lex hsel hs hc hn l (k + 1) _ _ (fun j hj => by have := hl (j + 1) (by simp; omega); simpa [Nat.add_assoc, Nat.add_comm 1 j] using this) (by simp only [List.length_cons] at hk; omega) (inv.set hr' hkn) hB' hK)

/-- what only reads ahead, in whatever order; what must come last behind it, in its order -/
theorem wpIn_quiet_tail {id : Nat} {Q : Exit → Act → World → Prop} {a : Act} {w : World} {l : List Oper} (m : Nat) (hm : P.follows .mixedOrders = true) (hnd : noDefer l.toArray = true) (hB : Region.lexTailB .any l.toArray m = true)
    (h : wpQuietIn F n P l.toArray (fun w' => ∃ k, w' = w.drewN k) (fun a' => ∀ w', (∃ k, w' = w.drewN k) → wpListIn F n P l.toArray Q (l.drop m) a' w') (l.take m) a) : (Code.region id l.toArray true).wpIn F n P Q a w := by
  simp only [Region.lexTailB, Bool.and_eq_true, decide_eq_true_eq] at hB
  obtain ⟨⟨⟨⟨hsel, hn⟩, hs⟩, hc⟩, hlex⟩ := hB
  have hn' : m < l.length := by simpa using hn
  have htl : (l.take m).length = m := by simp; omega
  have hdl : (l.drop m).length = l.toArray.size - m := by simp
  have inv0 : HeadInv .any l.toArray m (Array.replicate l.toArray.size false) :=
    ⟨by simp, fun j oj _ hl => (by rw [getD_replicate_false] at hl; cases hl), fun t _ ht => getD_in (by simpa using ht) (getD_replicate_false _ _)⟩
  have H := headQ_lex (F := F) (n := n) (P := P) (md := .any) (g := l.toArray.size - m) hsel hs hc hn (l.take m) 0 _ a (fun j hj => by
    have hj' : j < m := by rw [htl] at hj; exact hj
    simp [hj']) (by simpa using htl) inv0 (by rw [htl]; exact hlex) h
  refine wpIn_region_any hm ?_
  have := wpAnyIn_of_headQ (Q' := Q) (g := l.toArray.size - m) hnd (fun listed a' w' hw' hL => by
    have := wpAnyIn_of_seq (F := F) (n := n) (P := P) (md := .any) (Q' := Q) (l.drop m) m listed a' w' (fun j => by simp [List.getElem?_drop]) (by rw [hdl]; exact hL.1) (hL.2 w' hw')
    rwa [hdl] at this) _ _ _ _ ⟨1, rfl⟩ H
  rw [htl, show m + (l.toArray.size - m) = l.toArray.size by omega] at this
  exact this

theorem wpAnyIn_of_allQ {Q : Act → Prop} {Q' : Exit → Act → World → Prop} (hnd : noDefer ops = true) (hQ : ∀ a w, C w → Q a → Q' .normal a w) : ∀ (fuel : Nat) (listed : Array Bool) (a : Act) (w : World), C w →
    wpAnyQIn F n P md ops C Q fuel listed a → wpAnyIn F n P md ops Q' fuel listed a w
  | 0, _, _, _, hw, h => ⟨h.1, hQ _ _ hw h.2⟩
  | fuel + 1, _, _, _, hw, h => ⟨fun h0 => hQ _ _ hw (h.1 h0), fun i hi => quiet_wpOpIn hnd hw (fun a' w' hw' => wpAnyIn_of_allQ hnd hQ fuel _ a' w' hw') (h.2 i hi)⟩

/-- all of it only reads -/
theorem wpIn_quiet_all {id : Nat} {Q : Exit → Act → World → Prop} {a : Act} {w : World} {l : List Oper} (hm : P.follows .mixedOrders = true) (hnd : noDefer l.toArray = true) (hB : Region.lexB .any l.toArray = true)
    (h : wpQuietIn F n P l.toArray (fun w' => ∃ k, w' = w.drewN k) (fun a' => ∀ w', (∃ k, w' = w.drewN k) → Q .normal a' w') l a) : (Code.region id l.toArray true).wpIn F n P Q a w := by
  simp only [Region.lexB, Bool.and_eq_true] at hB
  refine wpIn_region_any hm (wpAnyIn_of_allQ (Q := fun a' => ∀ w', (∃ k, w' = w.drewN k) → Q .normal a' w') hnd (fun _ w' hw' h => h w' hw') _ _ _ _ ⟨1, rfl⟩ ?_)
  have := wpAnyQIn_lex (F := F) (n := n) (P := P) (C := fun w' => ∃ k, w' = w.drewN k) (md := .any) hB.1 l.toArray.toList 0 (Array.replicate l.toArray.size false) a (by simp) (by simpa using hB.2) (by simpa using h)
  simpa using this

/-- one operation of the walk, where the fence lets every function by -/
theorem quiet_step_w (hF : ∀ f, F.fn f) {Q : Act → Prop} {a : Act} {o : Oper} {rest : List Oper}
    (h : ∀ K : Act → Prop, (∀ a, wpQuietIn F n P ops C Q rest a → K a) → if Region.wanted o (yielded ops a.tmps) then o.quietIn F n P a C K else K (a.put o.dst undef)) : wpQuietIn F n P ops C Q (o :: rest) a :=
  wpQuietIn_step (fun _ _ f _ => hF f) h
end
end Go.Proofs.YteiiaocohpbanaaGreat
end
section
/- A region that draws its order, anywhere: what reads, and calls that leave a class of worlds, in whatever order. -/
namespace Go.Proofs.YteiiaocohpbanaaGreat
open Go

section
variable {F : Fence} {n : Nat} {P : Program}
/-- all of it only reads, or calls what stays in the class -/
theorem wpIn_class_all {C : World → Prop} {id : Nat} {Q : Exit → Act → World → Prop} {a : Act} {w : World} {l : List Oper} (hm : P.follows .mixedOrders = true) (hnd : noDefer l.toArray = true) (hB : Region.lexB .any l.toArray = true) (hC : C w.drew)
    (h : wpQuietIn F n P l.toArray C (fun a' => ∀ w', C w' → Q .normal a' w') l a) : (Code.region id l.toArray true).wpIn F n P Q a w := by
  simp only [Region.lexB, Bool.and_eq_true] at hB
  refine wpIn_region_any hm (wpAnyIn_of_allQ (C := C) (Q := fun a' => ∀ w', C w' → Q .normal a' w') hnd (fun _ w' hw' h => h w' hw') _ _ _ _ hC ?_)
  have := wpAnyQIn_lex (F := F) (n := n) (P := P) (C := C) (md := .any) hB.1 l.toArray.toList 0 (Array.replicate l.toArray.size false) a (by simp) (by simpa using hB.2) (by simpa using h)
  simpa using this
/-- what reads ahead, or calls what stays in the class; what must come last behind it, in its order -/
theorem wpIn_class_tail {C : World → Prop} {id : Nat} {Q : Exit → Act → World → Prop} {a : Act} {w : World} {l : List Oper} (m : Nat) (hm : P.follows .mixedOrders = true) (hnd : noDefer l.toArray = true) (hB : Region.lexTailB .any l.toArray m = true) (hC : C w.drew)
    (h : wpQuietIn F n P l.toArray C (fun a' => ∀ w', C w' → wpListIn F n P l.toArray Q (l.drop m) a' w') (l.take m) a) : (Code.region id l.toArray true).wpIn F n P Q a w := by
  simp only [Region.lexTailB, Bool.and_eq_true, decide_eq_true_eq] at hB
  obtain ⟨⟨⟨⟨hsel, hn⟩, hs⟩, hc⟩, hlex⟩ := hB
  have htl : (l.take m).length = m := by simp at hn ⊢; omega
  have hdl : (l.drop m).length = l.toArray.size - m := by simp
  have inv0 : HeadInv .any l.toArray m (Array.replicate l.toArray.size false) :=
    ⟨by simp, fun j oj _ hl => (by rw [getD_replicate_false] at hl; cases hl), fun t _ ht => getD_in (by simpa using ht) (getD_replicate_false _ _)⟩
  have H := headQ_lex (F := F) (n := n) (P := P) (md := .any) (g := l.toArray.size - m) hsel hs hc hn (l.take m) 0 _ a (fun j hj => by
    have hj' : j < m := by rw [htl] at hj; exact hj
    simp [hj']) (by simpa using htl) inv0 (by rw [htl]; exact hlex) h
  refine wpIn_region_any hm ?_
  have := wpAnyIn_of_headQ (Q' := Q) (g := l.toArray.size - m) hnd (fun listed a' w' hw' hL => by
    have := wpAnyIn_of_seq (F := F) (n := n) (P := P) (md := .any) (Q' := Q) (l.drop m) m listed a' w' (fun j => by simp [List.getElem?_drop]) (by rw [hdl]; exact hL.1) (hL.2 w' hw')
    rwa [hdl] at this) _ _ _ _ hC H
  rw [htl, show m + (l.toArray.size - m) = l.toArray.size by simp at hn ⊢; omega] at this
  exact this
/-- one operation: one value, in every world of the class -/
theorem class_step (hF : ∀ f, F.fn f) {ops : Array Oper} {C : World → Prop} {Q : Act → Prop} {a : Act} {o : Oper} {rest : List Oper} (v : Value) (hw : Region.wanted o (yielded ops a.tmps) = true)
    (h1 : ∀ w, C w → o.quietAtIn F n P a C w v) (h2 : ∀ K : Act → Prop, (∀ a, wpQuietIn F n P ops C Q rest a → K a) → K (a.put o.dst v)) : wpQuietIn F n P ops C Q (o :: rest) a :=
  quiet_step_w hF fun K hK => by
    rw [if_pos hw]
    exact ⟨v, h1, h2 K hK⟩
end
end Go.Proofs.YteiiaocohpbanaaGreat
end
