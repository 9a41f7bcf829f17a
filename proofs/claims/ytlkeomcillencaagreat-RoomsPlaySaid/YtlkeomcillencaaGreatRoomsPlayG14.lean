/- Texts of this proof, one behind the other. -/
import Derived.Test.YtlkeomcillencaaGreatRoomsPlayG13
import Derived.Test.YtlkeomcillencaaGreatRoomsPlayG9
import Derived.OpenShut
import Derived.Test.YtlkeomcillencaaGreatRoomsPlayG11
import Derived.Test.YtlkeomcillencaaGreatRoomsPlayG7
import Derived.Test.YtlkeomcillencaaGreatRoomsPlayG5
set_option linter.unusedVariables false
set_option linter.unusedSimpArgs false
section
/- Layer 11: a relation of ints and strings: Remove; nil ones. -/
namespace Go.Proofs.YtlkeomcillencaaGreat
open Go Go.RowKit Go.Maps Go.Lib

def lessLIS (L : List ((Int) × (List UInt8))) (a : Int) (b : List UInt8) : List ((Int) × (List UInt8)) := L.filter fun p => decide (p ≠ (a, b))
theorem lessMemIS {L : List ((Int) × (List UInt8))} {a : Int} {b : List UInt8} {p : (Int) × (List UInt8)} : p ∈ lessLIS L a b ↔ p ∈ L ∧ p ≠ (a, b) := by unfold lessLIS; rw [List.mem_filter]; simp
theorem lessNotIS {L : List ((Int) × (List UInt8))} {a : Int} {b : List UInt8} (h : (a, b) ∉ L) : lessLIS L a b = L := by
  unfold lessLIS
  rw [List.filter_eq_self]
  intro p hp
  simp only [decide_eq_true_eq]
  exact fun e => h (e ▸ hp)
theorem lessLenIS {L : List ((Int) × (List UInt8))} {a : Int} {b : List UInt8} (hn : L.Nodup) (h : (a, b) ∈ L) : (lessLIS L a b).length + 1 = L.length := by
  induction L with
  | nil => cases h
  | cons x r ih =>
    rw [List.nodup_cons] at hn
    unfold lessLIS at ih ⊢
    by_cases e : x = (a, b)
    · subst e
      rw [List.filter_cons_of_neg (by simp)]
      have := lessNotIS hn.1
      unfold lessLIS at this
      rw [this, List.length_cons]
    · rw [List.filter_cons_of_pos (by simpa using e), List.length_cons, List.length_cons]
      rcases List.mem_cons.1 h with h | h
      · exact absurd h.symm e
      · have := ih hn.2 h; omega
theorem rem_stIS {base : Nat} {w w1 w2 : World} {t b1 b2 : Nat} {most : Int} {L : List ((Int) × (List UInt8))} {T1 : List ((Int) × SetE (List UInt8))} {T2 : List ((List UInt8) × SetE (Int))} (h : RelStIS base w t b1 b2 most L T1 T2)
    {a : Int} {b : List UInt8} (hm : (a, b) ∈ L) (h1 : PutPIS base b1 T1 a (delIS (lk T1 a) b) w w1) (h2 : PutPSI base b2 T2 b (delI (lk T2 b) a) w1 w2) :
    ∃ X', RelAtIS base (w2.setCell ⟨t, 1, none⟩ (.int .i64 ((L.length : Int) - 1))) t X' most (lessLIS L a b) ∧ (∀ j, X' j → (j = t ∨ BlP b1 T1 j ∨ BlP b2 T2 j) ∨ w.heap.size ≤ j) ∧ Fr (fun j => j = t ∨ BlP b1 T1 j ∨ BlP b2 T2 j) w (w2.setCell ⟨t, 1, none⟩ (.int .i64 ((L.length : Int) - 1))) := by
  have hlen := lessLenIS h.nd hm
  obtain ⟨T1', p1, p2, p3, p4, p5, p6⟩ := h1
  obtain ⟨T2', q1, q2, q3, q4, q5, q6⟩ := h2
  have hz := p4.size
  have l1 : ∀ j, BlP b1 T1 j → j < w.heap.size := fun j hj => (blPIS_lt h.m1 hj).2
  have l2 : ∀ j, BlP b2 T2 j → j < w.heap.size := fun j hj => (blPSI_lt h.m2 hj).2
  have l1' : ∀ j, BlP b1 T1' j → j < w1.heap.size := fun j hj => (blPIS_lt p1 hj).2
  have lt := blk_lt h.blk
  have sep : ∀ j, BlP b1 T1' j → ¬ BlP b2 T2' j := fun j hj hj2 => by
    rcases p5 j hj with e | e
    · rcases q5 j hj2 with e2 | e2
      · exact h.ap j e e2
      · have := l1 j e; omega
    · rcases q5 j hj2 with e2 | e2
      · have := l2 j e2; omega
      · have := l1' j hj; omega
  have t1' : ¬ BlP b1 T1' t := fun e => by
    rcases p5 t e with e | e
    · exact h.t1 e
    · omega
  have t2' : ¬ BlP b2 T2' t := fun e => by
    rcases q5 t e with e | e
    · exact h.t2 e
    · omega
  have m1 : MapStIS base w2 b1 T1' := mapStIS_fr p1 q4 fun j hj e => by
    rcases p5 j hj with e1 | e1
    · exact h.ap j e1 e
    · have := l2 j e; omega
  have fc : Fr (fun j => j = t) w2 (w2.setCell ⟨t, 1, none⟩ (.int .i64 ((L.length : Int) - 1))) := Fr.setCell (X := fun j => j = t) (Fr.refl _ w2) _ rfl _
  have hb2 : w2.heap[t]? = some (.cells #[.int .i64 most, .int .i64 L.length, .map (some b1), .map (some b2)] 124 (0, 0)) := q4.blk (p4.blk h.blk h.t1) h.t2
  refine ⟨fun j => j = t ∨ BlP b1 T1' j ∨ BlP b2 T2' j, ⟨b1, b2, T1', T2', ⟨h.le, ?_, mapStIS_fr m1 fc fun j hj e => t1' (e ▸ hj), mapStSI_fr q1 fc fun j hj e => t2' (e ▸ hj), p3 h.n1, q3 h.n2, sep, t1', t2', fun a' b' => ?_, fun a' b' => ?_, ?_⟩, fun j => Iff.rfl⟩, fun j hj => ?_, ?_⟩
  · have := blk_set hb2 1 (.int .i64 ((L.length : Int) - 1))
    rw [this, show ((lessLIS L a b).length : Int) = (L.length : Int) - 1 by omega]
    rfl
  · rw [p2, lessMemIS]
    by_cases e : a' = a
    · subst e
      rw [if_pos rfl, delI_memS (lkUpIS h.m1 a'), h.h1]
      simp
    · rw [if_neg e, h.h1]
      simp [e]
  · rw [q2, lessMemIS]
    by_cases e : b' = b
    · subst e
      rw [if_pos rfl, delI_mem (lkUpSI h.m2 b'), h.h2]
      simp
    · rw [if_neg e, h.h2]
      simp [e]
  · exact h.nd.sublist List.filter_sublist
  · rcases hj with rfl | hj | hj
    · exact .inl (.inl rfl)
    · rcases p5 j hj with e | e
      · exact .inl (.inr (.inl e))
      · exact .inr e
    · rcases q5 j hj with e | e
      · exact .inl (.inr (.inr e))
      · exact .inr (by omega)
  · exact ((p4.mono fun j _ e => .inr (.inl e) : Fr (fun j => j = t ∨ BlP b1 T1 j ∨ BlP b2 T2 j) w w1).trans3 q4 fun j _ e => .inr (.inr e)).trans3 fc fun j _ e => .inl e
/-- what Remove does -/
def RemRIS (base t : Nat) (X : Nat → Prop) (most : Int) (L : List ((Int) × (List UInt8))) (a : Int) (b : List UInt8) (w : World) (e : Ending) (w' : World) : Prop :=
  e = .returned (.bool (decide ((a, b) ∈ L))) ∧ ∃ X', (∀ j, X' j → X j ∨ w.heap.size ≤ j) ∧ Fr X w w' ∧ RelAtIS base w' t X' most (lessLIS L a b)
set_option maxRecDepth 100000 in
set_option maxHeartbeats 4000000 in
theorem relRemIS {base : Nat} {w : World} {t : Nat} {X : Nat → Prop} {most : Int} {L : List ((Int) × (List UInt8))} (h : RelAtIS base w t X most L) (hbw : base ≤ w.heap.size) (hL : L.length ≤ 90000) {a : Int} (ha : OkKIS a) {b : List UInt8} (hb : OkKSI b) :
    Calls Tryz.prog 39 #[.pointer (some ⟨t, 0, none⟩), .int .i64 a, .string (bs b)] w (RemRIS base t X most L a b w) := by
  obtain ⟨b1, b2, T1, T2, hR, hX⟩ := h
  have HH := relHasIS hR (by omega) ha b
  have hks := hR.keys
  have H := Lib.hid (And.intro hR hX)
  unfold RemRIS
  by_cases hd : (a, b) ∈ L
  · rw [decide_eq_true hd] at HH ⊢
    have HHas := Lib.hid HH
    have HA := Lib.hid (And.intro hks (And.intro ha hb))
    have HD := Lib.hid hd
    clear HH hR hX hks ha hb hd
    have hone : 1 ≤ L.length := List.length_pos_of_mem HD.out
    go_enter Tryz.func39, Tryz.ntmps39
    go_wp2_with fail
    refine HHas.out.mono ?_
    rintro e w1 ⟨rfl, q, rfl⟩
    obtain ⟨V, hV⟩ : ∃ V, w.drewN q = V := ⟨_, rfl⟩
    rw [hV]
    have hVh : V.heap = w.heap := by rw [← hV]; rfl
    have hVf : Fr (fun _ => False) w V := by rw [← hV]; exact (Fr.refl _ w).drewN q
    have hRV : RelStIS base V t b1 b2 most L T1 T2 := H.out.1.same fun _ _ => by rw [hVh]
    have hbV : base ≤ V.heap.size := by rw [hVh]; exact hbw
    have v2 := blk_cell hRV.blk 2
    obtain ⟨e1, hl1, hx1⟩ := lkHasIS ((hRV.h1 a b).2 HD.out)
    obtain ⟨e2, hl2, hx2⟩ := lkHasSI ((hRV.h2 a b).2 HD.out)
    have HF := Lib.hid (emptyIS hRV.m1 hbV HA.out.2.1 b hl1 (by rw [hx1]; exact Nat.le_trans (HA.out.1.2.2.1 a) (by omega)))
    have HV := Lib.hid (And.intro hRV (And.intro hVh (And.intro hVf (And.intro hbV (And.intro hl2 hx2)))))
    clear hV hVh hVf hRV hbV hl1 hx1 hl2 hx2
    go_wp2_with fail
    refine HF.out.mono ?_
    rintro e w3 ⟨rfl, hP1⟩
    obtain ⟨hRV, hVh, hVf, hbV, hl2, hx2⟩ := HV.out
    obtain ⟨T1', p1, p2, p3, p4, p5, p6⟩ := id hP1
    have hb3 := p4.blk hRV.blk hRV.t1
    have c3 := blk_cell hb3 3
    have m2 : MapStSI base w3 b2 T2 := mapStSI_fr hRV.m2 p4 fun j hj e => hRV.ap j e hj
    have HF2 := Lib.hid (emptySI m2 (Nat.le_trans hbV p4.size) HA.out.2.2 a hl2 (by rw [hx2]; exact Nat.le_trans (HA.out.1.2.2.2 b) (by omega)))
    have HP := Lib.hid (And.intro hP1 (And.intro hb3 m2))
    clear hP1 p1 p2 p3 p4 p5 p6 hb3 m2 hRV hVh hVf hbV v2 hl2 hx2
    go_wp2_with fail
    refine HF2.out.mono ?_
    rintro e w4 ⟨rfl, hP2⟩
    obtain ⟨hRV, hVh, hVf, hbV, hl2, hx2⟩ := HV.out
    obtain ⟨hP1, hb3, m2⟩ := HP.out
    obtain ⟨T2', q1', q2, q3, q4, q5, q6⟩ := id hP2
    have hb4 := q4.blk hb3 hRV.t2
    have c1 := blk_cell hb4 1
    have f1 := blk_free hb4 1
    obtain ⟨X', hat, hx', hfr⟩ := rem_stIS hRV HD.out hP1 hP2
    have hl2 : (L.length : Int) ≤ 100000 := by omega
    have hl3 : 1 ≤ (L.length : Int) := by omega
    have HE : Hid (RemRIS base t X most L a b w (.returned (.bool true)) (w4.setCell ⟨t, 1, none⟩ (.int .i64 ((L.length : Int) - 1)))) := by
      have hX := H.out.2
      refine ⟨by rw [decide_eq_true HD.out], X', fun j hj => ?_, ?_, hat⟩
      · rcases hx' j hj with e | e
        · exact .inl ((hX j).2 e)
        · exact .inr (by rw [← hVh]; exact e)
      · exact (hVf.mono fun _ _ e => e.elim : Fr X w V).trans3 hfr fun j _ e => (hX j).2 e
    clear hP1 hb3 m2 hP2 q1' q2 q3 q4 q5 q6 hb4 hat hx' hfr hRV hVh hVf hbV hx2
    go_wp2_with fail
    go_ret
    exact ⟨rfl, HE.out.2⟩
  · rw [decide_eq_false hd] at HH ⊢
    have HHas := Lib.hid HH
    have HD := Lib.hid hd
    clear HH hR hX hks ha hb hd
    go_enter Tryz.func39, Tryz.ntmps39
    go_wp2_with fail
    refine HHas.out.mono ?_
    rintro e w1 ⟨rfl, q, rfl⟩
    go_wp2_with fail
    go_ret
    refine ⟨rfl, X, fun j hj => .inl hj, (Fr.refl X w).drewN q, ?_⟩
    rw [lessNotIS HD.out]
    exact ⟨b1, b2, T1, T2, H.out.1.same fun _ _ => rfl, H.out.2⟩
/-- a nil relation -/
theorem rightsNilIS (a : Int) (w : World) : Calls Tryz.prog 74 #[.pointer none, .int .i64 a] w fun e w' => e = .returned (.pointer none) ∧ w' = w := by
  go_enter Tryz.func74, Tryz.ntmps74
  go_wp2_with fail
  go_ret
  exact ⟨rfl, rfl⟩
theorem relHasNilIS (a : Int) (b : List UInt8) (w : World) : Calls Tryz.prog 65 #[.pointer none, .int .i64 a, .string (bs b)] w fun e w' => e = .returned (.bool false) ∧ w' = w := by
  have HR := Lib.hid (rightsNilIS a w)
  have HS := Lib.hid (set_has_nilS b w)
  go_enter Tryz.func65, Tryz.ntmps65
  go_wp2_with fail
  refine HR.out.mono ?_
  rintro e w1 ⟨rfl, rfl⟩
  go_wp2_with fail
  refine HS.out.mono ?_
  rintro e w2 ⟨rfl, rfl⟩
  go_wp2_with fail
  go_ret
  exact ⟨rfl, rfl⟩
theorem relCountNilIS (a : Int) (w : World) : Calls Tryz.prog 56 #[.pointer none, .int .i64 a] w fun e w' => e = .returned (.int .i64 0) ∧ w' = w := by
  have HR := Lib.hid (rightsNilIS a w)
  have HS := Lib.hid (set_len_nilS w)
  go_enter Tryz.func56, Tryz.ntmps56
  go_wp2_with fail
  refine HR.out.mono ?_
  rintro e w1 ⟨rfl, rfl⟩
  go_wp2_with fail
  refine HS.out.mono ?_
  rintro e w2 ⟨rfl, rfl⟩
  go_wp2_with fail
  go_ret
  exact ⟨rfl, rfl⟩

theorem relAddNilIS (a : Int) (b : List UInt8) (w : World) : Calls Tryz.prog 45 #[.pointer none, .int .i64 a, .string (bs b)] w fun e w' => e = .returned (.int .i64 1) ∧ w' = w := by
  go_enter Tryz.func45, Tryz.ntmps45
  go_wp2_with fail
  go_ret
  exact ⟨rfl, rfl⟩
theorem relRemNilIS (a : Int) (b : List UInt8) (w : World) : Calls Tryz.prog 39 #[.pointer none, .int .i64 a, .string (bs b)] w fun e w' => e = .returned (.bool false) ∧ w' = w := by
  have HR := Lib.hid (relHasNilIS a b w)
  go_enter Tryz.func39, Tryz.ntmps39
  go_wp2_with fail
  refine HR.out.mono ?_
  rintro e w1 ⟨rfl, rfl⟩
  go_wp2_with fail
  go_ret
  exact ⟨rfl, rfl⟩
theorem relOfNilIS (a : Int) (w : World) : Calls Tryz.prog 44 #[.pointer none, .int .i64 a] w (AllPS [] w) := by
  have HR := Lib.hid (rightsNilIS a w)
  have HA := Lib.hid (set_all_nilS w)
  go_enter Tryz.func44, Tryz.ntmps44
  go_wp2_with fail
  refine HR.out.mono ?_
  rintro e w1 ⟨rfl, rfl⟩
  go_wp2_with fail
  refine HA.out.mono ?_
  rintro e w2 ⟨⟨F, rfl, h4⟩, h5⟩
  have H2 := Lib.hid (And.intro h4 h5)
  clear h4 h5
  go_wp2_with fail
  go_ret
  exact ⟨⟨_, rfl, H2.out.1⟩, H2.out.2⟩
theorem relByNilIS (b : List UInt8) (w : World) : Calls Tryz.prog 61 #[.pointer none, .string (bs b)] w (AllP [] w) := by
  have HA := Lib.hid (set_all_nil w)
  go_enter Tryz.func61, Tryz.ntmps61
  go_wp2_with fail
  refine HA.out.mono ?_
  rintro e w2 ⟨⟨F, rfl, h4⟩, h5⟩
  have H2 := Lib.hid (And.intro h4 h5)
  clear h4 h5
  go_wp2_with fail
  go_ret
  exact ⟨⟨_, rfl, H2.out.1⟩, H2.out.2⟩
end Go.Proofs.YtlkeomcillencaaGreat
end
section
/- Layer 11: a relation of ints and strings: in words of its pairs alone. -/
namespace Go.Proofs.YtlkeomcillencaaGreat
open Go Go.RowKit Go.Maps Go.Lib

theorem AddRIS.ok {base t : Nat} {X : Nat → Prop} {most : Int} {L : List ((Int) × (List UInt8))} {a : Int} {b : List UInt8} {w : World} {e : Ending} {w' : World} (h : AddRIS base t X most L a b w e w') (hn : (a, b) ∉ L) (xs : List (List UInt8)) (h1 : xs.Pairwise (· < ·)) (h2 : ∀ x, x ∈ xs ↔ (a, x) ∈ L) (hl : (xs.length : Int) < most) :
    e = .returned (.int .i64 0) ∧ ∃ X', (∀ j, X' j → X j ∨ w.heap.size ≤ j) ∧ Fr X w w' ∧ RelAtIS base w' t X' most (L ++ [(a, b)]) := by
  obtain ⟨X', p1, p2, ⟨q1, _⟩ | ⟨_, q2, _⟩ | ⟨_, _, q3, q4⟩⟩ := h
  · exact absurd q1 hn
  · have := q2 xs h1 h2; omega
  · exact ⟨q3, X', p1, p2, q4⟩
/-- whatever Add does -/
theorem AddRIS.any {base t : Nat} {X : Nat → Prop} {most : Int} {L : List ((Int) × (List UInt8))} {a : Int} {b : List UInt8} {w : World} {e : Ending} {w' : World} (h : AddRIS base t X most L a b w e w') :
    ∃ X' c L', e = .returned (.int .i64 c) ∧ (∀ j, X' j → X j ∨ w.heap.size ≤ j) ∧ Fr X w w' ∧ RelAtIS base w' t X' most L' ∧ (L' = L ∧ (c = 6 ∧ (a, b) ∈ L ∨ c = 7 ∧ (a, b) ∉ L ∧ (∀ xs : List (List UInt8), xs.Pairwise (· < ·) → (∀ x, x ∈ xs ↔ (a, x) ∈ L) → most ≤ xs.length)) ∨
      L' = L ++ [(a, b)] ∧ c = 0 ∧ (a, b) ∉ L ∧ (∀ xs : List (List UInt8), xs.Pairwise (· < ·) → (∀ x, x ∈ xs ↔ (a, x) ∈ L) → (xs.length : Int) < most)) := by
  obtain ⟨X', p1, p2, ⟨q1, q3, q4⟩ | ⟨q1, q2, q3, q4⟩ | ⟨q1, q2, q3, q4⟩⟩ := h
  · exact ⟨X', 6, L, q3, p1, p2, q4, .inl ⟨rfl, .inl ⟨rfl, q1⟩⟩⟩
  · exact ⟨X', 7, L, q3, p1, p2, q4, .inl ⟨rfl, .inr ⟨rfl, q1, q2⟩⟩⟩
  · exact ⟨X', 0, _, q3, p1, p2, q4, .inr ⟨rfl, rfl, q1, q2⟩⟩
section
variable {base : Nat} {w : World} {t : Nat} {X : Nat → Prop} {most : Int} {L : List ((Int) × (List UInt8))}
theorem ofAtIS (h : RelAtIS base w t X most L) (hL : L.length ≤ 100000) {a : Int} (ha : OkKIS a) : ∃ xs : List (List UInt8), xs.Pairwise (· < ·) ∧ (∀ b, b ∈ xs ↔ (a, b) ∈ L) ∧ xs.length ≤ L.length ∧ ∀ V, Fr (fun _ => False) w V → Calls Tryz.prog 44 #[.pointer (some ⟨t, 0, none⟩), .int .i64 a] V (AllPS xs V) := by
  obtain ⟨b1, b2, T1, T2, h1, h2⟩ := h
  exact ⟨lk T1 a, lkUpIS h1.m1 a, h1.h1 a, h1.keys.2.2.1 a, fun V hV => relOfIS (h1.same fun j hj => hV.block j (h1.lt hj).2 fun e => e : RelStIS base V t b1 b2 most L T1 T2) hL ha⟩
theorem byAtIS (h : RelAtIS base w t X most L) (hL : L.length ≤ 100000) {b : List UInt8} (hb : OkKSI b) : ∃ xs : List (Int), xs.Pairwise (· < ·) ∧ (∀ a, a ∈ xs ↔ (a, b) ∈ L) ∧ xs.length ≤ L.length ∧ ∀ V, Fr (fun _ => False) w V → Calls Tryz.prog 61 #[.pointer (some ⟨t, 0, none⟩), .string (bs b)] V (AllP xs V) := by
  obtain ⟨b1, b2, T1, T2, h1, h2⟩ := h
  exact ⟨lk T2 b, lkUpSI h1.m2 b, fun a => h1.h2 a b, h1.keys.2.2.2 b, fun V hV => relByIS (h1.same fun j hj => hV.block j (h1.lt hj).2 fun e => e : RelStIS base V t b1 b2 most L T1 T2) hL hb⟩
theorem hasAtIS (h : RelAtIS base w t X most L) (hL : L.length ≤ 100000) {a : Int} (ha : OkKIS a) (b : List UInt8) : Calls Tryz.prog 65 #[.pointer (some ⟨t, 0, none⟩), .int .i64 a, .string (bs b)] w fun e w' => e = .returned (.bool (decide ((a, b) ∈ L))) ∧ ∃ q, w' = w.drewN q := by
  obtain ⟨b1, b2, T1, T2, h1, h2⟩ := h
  exact relHasIS h1 hL ha b
theorem countAtIS (h : RelAtIS base w t X most L) {a : Int} (ha : OkKIS a) {xs : List (List UInt8)} (hx : xs.Pairwise (· < ·)) (hm : ∀ b, b ∈ xs ↔ (a, b) ∈ L) : Calls Tryz.prog 56 #[.pointer (some ⟨t, 0, none⟩), .int .i64 a] w fun e w' => e = .returned (.int .i64 xs.length) ∧ w' = w := by
  obtain ⟨b1, b2, T1, T2, h1, h2⟩ := h
  have e := up_extS hx (lkUpIS h1.m1 a) fun b => (hm b).trans (h1.h1 a b).symm
  rw [e]
  exact relCountIS h1 ha

theorem RelAtIS.below {w' : World} (h : RelAtIS base w t X most L) (hb : Below w.heap.size w w') : RelAtIS base w' t X most L := h.fr (Fr.of_below (X := fun _ => False) hb) fun _ _ e => e
end
end Go.Proofs.YtlkeomcillencaaGreat
end
section
/- The document's Same and Compare of layer 1. -/
namespace Go.Proofs.YtlkeomcillencaaGreat
open Go.RowKit

theorem refsame (a b : ByteArray) (w : World) (ha : a.size ≤ 1000000) (hb : b.size ≤ 1000000) :
    Calls Tryz.prog 54 #[.string a, .string b] w fun e w' => e = .returned (.bool (sameF a.data.toList b.data.toList)) ∧ Below w.heap.size w w' := by
  go_enter Tryz.func54, Tryz.ntmps54
  go_wp2_with fail
  refine (reftext _ _ ha).mono ?_
  rintro e w1 ⟨rfl, hb1⟩
  go_wp2_with fail
  refine (reftext _ _ hb).mono ?_
  rintro e w2 ⟨rfl, hb2⟩
  go_wp2_with fail
  go_ret
  exact ⟨ret_bool (beq_bs _ _), hb1.trans (hb2.mono hb1.size)⟩

theorem less_cmpL : ∀ (x y : List UInt8), Op.bytesLess x y = true ↔ cmpL x y = -1
  | [], [] => by simp [Op.bytesLess, cmpL]
  | [], _ :: _ => by simp [Op.bytesLess, cmpL]
  | _ :: _, [] => by simp [Op.bytesLess, cmpL]
  | a :: x, b :: y => by
    simp only [Op.bytesLess, cmpL, Bool.or_eq_true, decide_eq_true_eq, Bool.and_eq_true, beq_iff_eq, UInt8.lt_iff_toNat_lt]
    by_cases h1 : a.toNat < b.toNat
    · simp [h1]
    · rw [if_neg h1]
      by_cases h2 : b.toNat < a.toNat
      · rw [if_pos h2]
        constructor
        · rintro (h | ⟨rfl, _⟩) <;> omega
        · intro h; cases h
      · rw [if_neg h2, ← less_cmpL x y]
        have : a = b := UInt8.toNat_inj.mp (by omega)
        subst this
        simp
theorem cmpL_three : ∀ (x y : List UInt8), cmpL x y = -1 ∨ cmpL x y = 0 ∨ cmpL x y = 1
  | [], [] => by simp [cmpL]
  | [], _ :: _ => by simp [cmpL]
  | _ :: _, [] => by simp [cmpL]
  | a :: x, b :: y => by
    simp only [cmpL]
    split
    · simp
    · split
      · simp
      · exact cmpL_three x y
theorem cmpF_lt {a b : List UInt8} {x y : ByteArray} (hx : x = bs (foldL a)) (hy : y = bs (foldL b)) (h : Op.bytesLess x.toList y.toList = true) : cmpF a b = -1 := by
  subst hx hy
  rw [ByteArray.toList_eq, ByteArray.toList_eq] at h
  exact (less_cmpL _ _).1 h
theorem cmpF_eq {a b : List UInt8} {x y : ByteArray} (hx : x = bs (foldL a)) (hy : y = bs (foldL b)) (h : (!x.toList == y.toList) = false) : cmpF a b = 0 := by
  subst hx hy
  rw [beq_bs] at h
  simp at h
  exact cmpL_zero.2 h
theorem cmpF_gt {a b : List UInt8} {x y : ByteArray} (hx : x = bs (foldL a)) (hy : y = bs (foldL b)) (h : Op.bytesLess x.toList y.toList = false) (h2 : (!x.toList == y.toList) = true) : cmpF a b = 1 := by
  subst hx hy
  rw [ByteArray.toList_eq, ByteArray.toList_eq] at h
  rw [beq_bs] at h2
  simp at h2
  rcases cmpL_three (foldL a) (foldL b) with h3 | h3 | h3
  · have := (less_cmpL (foldL a) (foldL b)).2 h3
    rw [bs_toList, bs_toList] at h
    rw [h] at this; cases this
  · exact absurd (cmpL_zero.1 h3) h2
  · exact h3

theorem refcompare (a b : ByteArray) (w : World) (ha : a.size ≤ 1000000) (hb : b.size ≤ 1000000) :
    Calls Tryz.prog 34 #[.string a, .string b] w fun e w' => e = .returned (.int .i64 (cmpF a.data.toList b.data.toList)) ∧ Below w.heap.size w w' := by
  go_enter Tryz.func34, Tryz.ntmps34
  go_wp2_with fail
  refine (reftext _ _ ha).mono ?_
  rintro e w1 ⟨rfl, hb1⟩
  go_wp2_with fail
  refine (reftext _ _ hb).mono ?_
  rintro e w2 ⟨rfl, hb2⟩
  obtain ⟨x, hx⟩ : ∃ x, x = bs (foldL a.data.toList) := ⟨_, rfl⟩
  obtain ⟨y, hy⟩ : ∃ y, y = bs (foldL b.data.toList) := ⟨_, rfl⟩
  rw [← hx, ← hy]
  have Hx := Lib.hid hx
  have Hy := Lib.hid hy
  clear hx hy
  go_wp2_with fail
  · go_ret
    exact ⟨ret_int (cmpF_lt Hx.out Hy.out (by assumption)).symm, hb1.trans (hb2.mono hb1.size)⟩
  · go_ret
    exact ⟨ret_int (cmpF_gt Hx.out Hy.out (by assumption) (by assumption)).symm, hb1.trans (hb2.mono hb1.size)⟩
  · go_ret
    exact ⟨ret_int (cmpF_eq Hx.out Hy.out (by assumption)).symm, hb1.trans (hb2.mono hb1.size)⟩
end Go.Proofs.YtlkeomcillencaaGreat
end
section
/- What layer 1's laws ask first: awake. FoldBytes: every byte. -/
namespace Go.Proofs.YtlkeomcillencaaGreat
open Go.RowKit

theorem below_dn {B : Nat} {a w : World} (h : Below B a w) (n : Nat) : Below B a (w.drewN n) := ⟨h.os, h.tape, h.output, h.size, h.block⟩



theorem foldB_idem (b : UInt8) : foldB (foldB b) = foldB b := by
  have h : ∀ n : Fin 256, foldB (foldB (UInt8.ofNat n)) = foldB (UInt8.ofNat n) := by decide +kernel
  have := h ⟨b.toNat, b.toNat_lt⟩
  simpa using this

theorem int_u8 {a : Int} (h0 : 0 ≤ a) (h1 : a ≤ 255) : ∃ b : UInt8, a = (b.toNat : Int) :=
  ⟨UInt8.ofNat a.toNat, by rw [UInt8.toNat_ofNat']; omega⟩


end Go.Proofs.YtlkeomcillencaaGreat
end
section
/- Layer 1: that folded texts stand in one row (numbers and lists alone). -/
namespace Go.Proofs.YtlkeomcillencaaGreat
open Go.RowKit

theorem cmpL_anti : ∀ (x y : List UInt8), cmpL y x = -cmpL x y
  | [], [] => rfl
  | [], _ :: _ => rfl
  | _ :: _, [] => rfl
  | a :: x, b :: y => by
    simp only [cmpL]
    by_cases h1 : a.toNat < b.toNat
    · rw [if_pos h1, if_neg (by omega), if_pos h1]; rfl
    · by_cases h2 : b.toNat < a.toNat
      · rw [if_pos h2, if_neg h1, if_pos h2]
      · rw [if_neg h2, if_neg h1, if_neg h1, if_neg h2, cmpL_anti x y]
theorem cmpF_anti (x y : List UInt8) : cmpF y x = -cmpF x y := cmpL_anti _ _
theorem cmpL_trans : ∀ (x y z : List UInt8), cmpL x y ≤ 0 → cmpL y z ≤ 0 → cmpL x z ≤ 0
  | [], _, [] => by simp [cmpL]
  | [], _, _ :: _ => by simp [cmpL]
  | _ :: _, [], _ => by intro h; simp [cmpL] at h
  | _ :: _, _ :: _, [] => by intro _ h; simp [cmpL] at h
  | a :: x, b :: y, c :: z => by
    simp only [cmpL]
    intro h1 h2
    by_cases e1 : a.toNat < b.toNat
    · by_cases e2 : b.toNat < c.toNat
      · rw [if_pos (by omega)]; omega
      · rw [if_neg e2] at h2
        by_cases e3 : c.toNat < b.toNat
        · rw [if_pos e3] at h2; omega
        · rw [if_pos (by omega)]; omega
    · rw [if_neg e1] at h1
      by_cases e2 : b.toNat < a.toNat
      · rw [if_pos e2] at h1; omega
      · rw [if_neg e2] at h1
        by_cases e3 : b.toNat < c.toNat
        · rw [if_pos (by omega)]; omega
        · rw [if_neg e3] at h2
          by_cases e4 : c.toNat < b.toNat
          · rw [if_pos e4] at h2; omega
          · rw [if_neg e4] at h2
            rw [if_neg (by omega), if_neg (by omega)]
            exact cmpL_trans x y z h1 h2
theorem cmpF_trans {x y z : List UInt8} : cmpF x y ≤ 0 → cmpF y z ≤ 0 → cmpF x z ≤ 0 := cmpL_trans _ _ _
theorem cmpL_app : ∀ (c x y : List UInt8), cmpL (c ++ x) (c ++ y) = cmpL x y
  | [], _, _ => rfl
  | b :: c, x, y => by
    simp only [List.cons_append, cmpL]
    rw [if_neg (by omega), if_neg (by omega)]
    exact cmpL_app c x y
theorem cmpF_app (c x y : List UInt8) : cmpF (c ++ x) (c ++ y) = cmpF x y := by
  unfold cmpF; rw [foldL_append, foldL_append]; exact cmpL_app _ _ _
theorem cmpF_zero_len {x y : List UInt8} (h : cmpF x y = 0) : x.length = y.length := by
  have := congrArg List.length (cmpL_zero.1 h)
  simpa using this
theorem sameF_take (a b : List UInt8) : sameF ((a ++ b).take a.length) a = true := by
  rw [List.take_left]; exact sameF_iff.2 rfl
theorem sameF_refl (a : List UInt8) : sameF a a = true := sameF_iff.2 rfl
theorem sameF_halves {a b c d : List UInt8} (h : a.length = c.length) : sameF (a ++ b) (c ++ d) = (sameF a c && sameF b d) := by
  rw [Bool.eq_iff_iff, Bool.and_eq_true, sameF_iff, sameF_iff, sameF_iff, foldL_append, foldL_append]
  constructor
  · intro e
    exact List.append_inj e (by simp [h])
  · rintro ⟨e1, e2⟩
    rw [e1, e2]
theorem cmpF_bd (x y : List UInt8) : -1 ≤ cmpF x y ∧ cmpF x y ≤ 1 := by
  rcases cmpL_three (foldL x) (foldL y) with h | h | h <;> (unfold cmpF; omega)
end Go.Proofs.YtlkeomcillencaaGreat
end
section
/- Layer 1's laws on texts: walked from the contracts. -/
namespace Go.Proofs.YtlkeomcillencaaGreat
open Go.RowKit

theorem bnext {w w1 w2 : World} (h : Below w.heap.size w w1) (k : Below w1.heap.size w1 w2) : Below w.heap.size w w2 := h.trans (k.mono h.size)

theorem foldL_idem (l : List UInt8) : foldL (foldL l) = foldL l := by
  unfold foldL
  rw [List.map_map]
  congr 1
  funext b
  exact foldB_idem b




end Go.Proofs.YtlkeomcillencaaGreat
end
section
/- Layer 20: all rooms, as they lie: a book of rooms, a relation, the rooms themselves, each apart from all others (blocks are coloured). -/
namespace Go.Proofs.YtlkeomcillencaaGreat
open Go Go.RowKit Go.Maps Go.Lib

/-- a room, and where it lies -/
structure RmE where
  B : Nat
  q : RmV
  r : Rm
def keyE (e : RmE) : List UInt8 := foldL e.r.nm
/-- its entry in the book -/
def entE (e : RmE) : KeyB × Ent VP := (foldL e.r.nm, ⟨bs e.r.nm, foldL e.r.nm, some e.B⟩)
abbrev Tag := Nat × List UInt8
abbrev tag0 : Tag := (0, [])
/-- the rooms' own block -/
def rsO (mr mj mb : Int) (t tr : Nat) : Obj := .cells #[.string ⟨#[]⟩, .string ⟨#[]⟩, .string ⟨#[]⟩, .string ⟨#[]⟩, .int .i64 0, .int .i64 0, .int .i64 mj, .int .i64 mr, .int .i64 mb, .int .i64 0, .int .i64 0, .int .i64 0, .int .i64 0, .int .i64 0, .int .i64 0, .pointer (some ⟨t, 0, none⟩), .pointer (some ⟨tr, 0, none⟩)] 78 (0, 0)
structure RsPh (base : Nat) (w : World) (R t b tr : Nat) (X : Nat → Prop) (C : Nat → Tag) (mr mj mb : Int) (Q : List RmE) (L : List (Int × List UInt8)) : Prop where
  self : w.heap[R]? = some (rsO mr mj mb t tr)
  bok : BokP base w t b mr (Q.map entE)
  rel : RelAtIS base w tr X mj L
  each : ∀ e ∈ Q, RoomAt base e.B e.q e.r w
  cR : C R = (1, [])
  ct : C t = (2, [])
  cb : C b = (2, [])
  cX : ∀ j, X j → C j = (3, [])
  cE : ∀ e ∈ Q, ∀ k, RmX e.B e.q k → C k = (4, keyE e)
  cN : ∀ k, w.heap.size ≤ k → C k = tag0
  cB : ∀ k, k < base → C k = tag0
/-- colours of the blocks that a call made -/
def paint (C : Nat → Tag) (n m : Nat) (g : Tag) : Nat → Tag := fun k => if k < n then C k else if k < m then g else tag0
theorem paint_old {C : Nat → Tag} {n m : Nat} {g : Tag} {k : Nat} (h : k < n) : paint C n m g k = C k := if_pos h
theorem paint_new {C : Nat → Tag} {n m : Nat} {g : Tag} {k : Nat} (h : n ≤ k) (h2 : k < m) : paint C n m g k = g := by unfold paint; rw [if_neg (by omega), if_pos h2]
theorem paint_far {C : Nat → Tag} {n m : Nat} {g : Tag} {k : Nat} (h : n ≤ k) (h2 : m ≤ k) : paint C n m g k = tag0 := by unfold paint; rw [if_neg (by omega), if_neg (by omega)]
section
variable {base : Nat} {w w' : World} {R t b tr : Nat} {X : Nat → Prop} {C : Nat → Tag} {mr mj mb : Int} {Q : List RmE} {L : List (Int × List UInt8)}
theorem RsPh.keys (h : RsPh base w R t b tr X C mr mj mb Q L) : (Q.map keyE).Nodup := by
  obtain ⟨D, _, h2, _⟩ := h.bok.2.2.2.2
  have := h2.nodup
  rw [List.map_map] at this
  exact this
theorem RsPh.lt (h : RsPh base w R t b tr X C mr mj mb Q L) {k : Nat} (hk : C k ≠ tag0) : base ≤ k ∧ k < w.heap.size :=
  ⟨Nat.le_of_not_lt fun e => hk (h.cB k e), Nat.lt_of_not_le fun e => hk (h.cN k e)⟩
theorem RsPh.fr (h : RsPh base w R t b tr X C mr mj mb Q L) {Z : Nat → Prop} (hf : Fr Z w w') (hz : ∀ k, C k ≠ tag0 → ¬ Z k) : RsPh base w' R t b tr X C mr mj mb Q L := by
  have n2 : ((2, []) : Tag) ≠ tag0 := by simp
  refine ⟨hf.blk h.self (hz _ (by rw [h.cR]; simp)), bokP_fr h.bok hf (hz _ (by rw [h.ct]; simp)) (hz _ (by rw [h.cb]; simp)), h.rel.fr hf fun j hj => hz _ (by rw [h.cX j hj]; simp), fun e he => (h.each e he).fr hf fun k hk => hz _ (by rw [h.cE e he k hk]; simp), h.cR, h.ct, h.cb, h.cX, h.cE, fun k hk => h.cN k (Nat.le_trans hf.size hk), h.cB⟩
theorem RsPh.below (h : RsPh base w R t b tr X C mr mj mb Q L) (hb : RowKit.Below w.heap.size w w') : RsPh base w' R t b tr X C mr mj mb Q L := h.fr (Fr.of_below (X := fun _ => False) hb) fun _ _ e => e
/-- what a step gives: the state behind it; the colours that were; what it may have written -/
def RsTo (base R : Nat) (C : Nat → Tag) (mr mj mb : Int) (Q : List RmE) (L : List (Int × List UInt8)) (w w' : World) : Prop :=
  ∃ t b tr X C', RsPh base w' R t b tr X C' mr mj mb Q L ∧ (∀ k, k < w.heap.size → C' k = C k) ∧ Fr (fun k => C k ≠ tag0) w w'
theorem RsTo.trans {C1 : Nat → Tag} {Q2 : List RmE} {L2 : List (Int × List UInt8)} {w1 w2 : World} (hc : ∀ k, k < w.heap.size → C1 k = C k) (hf : Fr (fun k => C k ≠ tag0) w w1) (h : RsTo base R C1 mr mj mb Q2 L2 w1 w2) : RsTo base R C mr mj mb Q2 L2 w w2 := by
  obtain ⟨t2, b2, tr2, X2, C2, h1, h2, h3⟩ := h
  exact ⟨t2, b2, tr2, X2, C2, h1, fun k hk => (h2 k (Nat.lt_of_lt_of_le hk hf.size)).trans (hc k hk), hf.trans3 h3 fun k hk e => by rwa [hc k hk] at e⟩
theorem RsPh.to (h : RsPh base w R t b tr X C mr mj mb Q L) (hb : RowKit.Below w.heap.size w w') : RsTo base R C mr mj mb Q L w w' := ⟨t, b, tr, X, C, h.below hb, fun _ _ => rfl, Fr.of_below hb⟩
theorem RsTo.then {Q2 : List RmE} {L2 : List (Int × List UInt8)} {w1 w2 : World} (h : RsTo base R C mr mj mb Q2 L2 w w1) (hb : RowKit.Below w1.heap.size w1 w2) : RsTo base R C mr mj mb Q2 L2 w w2 := by
  obtain ⟨t2, b2, tr2, X2, C2, h1, h2, h3⟩ := h
  exact ⟨t2, b2, tr2, X2, C2, h1.below hb, h2, h3.trans (Fr.of_below hb)⟩
/-- the relation changed -/
theorem RsPh.relTo (h : RsPh base w R t b tr X C mr mj mb Q L) {X' : Nat → Prop} {L' : List (Int × List UInt8)} (hf : Fr X w w') (hx : ∀ j, X' j → X j ∨ w.heap.size ≤ j) (hr : RelAtIS base w' tr X' mj L') :
    RsPh base w' R t b tr X' (paint C w.heap.size w'.heap.size (3, [])) mr mj mb Q L' ∧ Fr (fun k => C k ≠ tag0) w w' := by
  have hlR : R < w.heap.size := blk_lt h.self
  have hlt := bokP_lt h.bok
  have ne : ∀ {k : Nat} {g : Tag}, C k = g → g ≠ (3, []) → ¬ X k := fun e hg hx => hg (by rw [← e, h.cX _ hx])
  refine ⟨⟨hf.blk h.self (ne h.cR (by simp)), bokP_fr h.bok hf (ne h.ct (by simp)) (ne h.cb (by simp)), hr, fun e he => (h.each e he).fr hf fun k hk => ne (h.cE e he k hk) (by simp), by rw [paint_old hlR]; exact h.cR, by rw [paint_old hlt.1]; exact h.ct, by rw [paint_old hlt.2]; exact h.cb,
    fun j hj => ?_, fun e he k hk => by rw [paint_old ((h.each e he).lt k hk).2]; exact h.cE e he k hk, fun k hk => paint_far (Nat.le_trans hf.size hk) hk, fun k hk => ?_⟩, hf.mono fun k _ hk => by rw [h.cX k hk]; simp⟩
  · by_cases e : j < w.heap.size
    · rw [paint_old e]
      rcases hx j hj with e2 | e2
      · exact h.cX j e2
      · omega
    · exact paint_new (by omega) (hr.lt hj).2
  · have := (h.each)
    have hbR : base ≤ w.heap.size := by have := h.bok.1; have := hlt.1; omega
    rw [paint_old (by omega)]; exact h.cB k hk
/-- a room changed -/
theorem RsPh.roomTo {Q1 Q2 : List RmE} {e : RmE} (h : RsPh base w R t b tr X C mr mj mb (Q1 ++ e :: Q2) L) {r' : Rm} (hn : r'.nm = e.r.nm) (hc : ChgW base e.B e.q r' w w') :
    (∃ q', RsPh base w' R t b tr X (paint C w.heap.size w'.heap.size (4, keyE e)) mr mj mb (Q1 ++ ⟨e.B, q', r'⟩ :: Q2) L) ∧ Fr (fun k => C k ≠ tag0) w w' := by
  obtain ⟨q', h1, hf, h3⟩ := hc
  have hlR : R < w.heap.size := blk_lt h.self
  have hlt := bokP_lt h.bok
  have hkey := h.keys
  have he : e ∈ Q1 ++ e :: Q2 := by simp
  have ne : ∀ {k : Nat} {g : Tag}, C k = g → g ≠ (4, keyE e) → ¬ RmX e.B e.q k := fun e1 hg hx => hg (by rw [← e1, h.cE e he _ hx])
  have hsz := hf.size
  have hmap : (Q1 ++ ⟨e.B, q', r'⟩ :: Q2 : List RmE).map entE = (Q1 ++ e :: Q2).map entE := by
    rw [List.map_append, List.map_append, List.map_cons, List.map_cons]
    unfold entE
    simp only [hn]
  have hoth : ∀ f, f ∈ Q1 ∨ f ∈ Q2 → f ∈ Q1 ++ e :: Q2 ∧ keyE f ≠ keyE e := fun f hfm => by
    rw [List.map_append, List.map_cons, List.nodup_append, List.nodup_cons] at hkey
    rcases hfm with hfm | hfm
    · exact ⟨by simp [hfm], fun e1 => hkey.2.2 _ (List.mem_map_of_mem hfm) _ (List.mem_cons_self ..) e1⟩
    · exact ⟨by simp [hfm], fun e1 => hkey.2.1.1 (e1 ▸ List.mem_map_of_mem hfm)⟩
  refine ⟨⟨q', hf.blk h.self (ne h.cR (by simp)), by rw [hmap]; exact bokP_fr h.bok hf (ne h.ct (by simp)) (ne h.cb (by simp)), h.rel.fr hf fun j hj => ne (h.cX j hj) (by simp), fun f hfm => ?_, by rw [paint_old hlR]; exact h.cR, by rw [paint_old hlt.1]; exact h.ct, by rw [paint_old hlt.2]; exact h.cb,
    fun j hj => by rw [paint_old (h.rel.lt hj).2]; exact h.cX j hj, fun f hfm k hk => ?_, fun k hk => paint_far (by omega) hk, fun k hk => ?_⟩, hf.mono fun k _ hk => by rw [h.cE e he k hk]; simp⟩
  · have hcase : f ∈ Q1 ∨ f ∈ Q2 ∨ f = ⟨e.B, q', r'⟩ := by
      rw [List.mem_append, List.mem_cons] at hfm
      rcases hfm with a | a | a
      · exact .inl a
      · exact .inr (.inr a)
      · exact .inr (.inl a)
    rcases hcase with a | a | rfl
    · obtain ⟨m1, m2⟩ := hoth f (.inl a)
      exact (h.each f m1).fr hf fun k hk => ne (h.cE f m1 k hk) (by simp [m2])
    · obtain ⟨m1, m2⟩ := hoth f (.inr a)
      exact (h.each f m1).fr hf fun k hk => ne (h.cE f m1 k hk) (by simp [m2])
    · exact h1
  · have hcase : f ∈ Q1 ∨ f ∈ Q2 ∨ f = ⟨e.B, q', r'⟩ := by
      rw [List.mem_append, List.mem_cons] at hfm
      rcases hfm with a | a | a
      · exact .inl a
      · exact .inr (.inr a)
      · exact .inr (.inl a)
    rcases hcase with a | a | rfl
    · obtain ⟨m1, m2⟩ := hoth f (.inl a)
      rw [paint_old ((h.each f m1).lt k hk).2]; exact h.cE f m1 k hk
    · obtain ⟨m1, m2⟩ := hoth f (.inr a)
      rw [paint_old ((h.each f m1).lt k hk).2]; exact h.cE f m1 k hk
    · have hke : keyE ⟨e.B, q', r'⟩ = keyE e := by unfold keyE; simp only [hn]
      rw [hke]
      by_cases e2 : k < w.heap.size
      · rw [paint_old e2]; exact h.cE e he k (h3 k hk e2)
      · exact paint_new (by omega) (h1.lt k hk).2
  · have hbR : base ≤ w.heap.size := by have := h.bok.1; have := hlt.1; omega
    rw [paint_old (by omega)]; exact h.cB k hk
/-- a new room came -/
theorem RsPh.putTo (h : RsPh base w R t b tr X C mr mj mb Q L) {B : Nat} {q : RmV} {r : Rm} {w1 : World} (h1 : RoomAt w.heap.size B q r w1) (hb1 : RowKit.Below w.heap.size w w1) (hbok : BokP base w' t b mr ((Q ++ [(⟨B, q, r⟩ : RmE)]).map entE)) (hf : Fr (fun j => j = b) w1 w') :
    RsPh base w' R t b tr X (paint C w.heap.size w1.heap.size (4, foldL r.nm)) mr mj mb (Q ++ [⟨B, q, r⟩]) L ∧ Fr (fun k => C k ≠ tag0) w w' := by
  have hlR : R < w.heap.size := blk_lt h.self
  have hlt := bokP_lt h.bok
  have hbR : base ≤ w.heap.size := by have := h.bok.1; have := hlt.1; omega
  have hs1 := hb1.size
  have f1 : Fr (fun _ => False) w w1 := Fr.of_below hb1
  have g1 := h.below hb1
  have ne : ∀ {k : Nat} {g : Tag}, C k = g → g ≠ (2, []) → ¬ k = b := fun e1 hg hx => hg (by rw [← e1, hx, h.cb])
  have hnb : ∀ k, RmX B q k → k ≠ b := fun k hk e => by have := (h1.lt k hk).1; have := hlt.2; omega
  refine ⟨⟨hf.blk g1.self (ne h.cR (by simp)), hbok, g1.rel.fr hf fun j hj => ne (h.cX j hj) (by simp), fun f hfm => ?_, by rw [paint_old hlR]; exact h.cR, by rw [paint_old hlt.1]; exact h.ct, by rw [paint_old hlt.2]; exact h.cb,
    fun j hj => by rw [paint_old (h.rel.lt hj).2]; exact h.cX j hj, fun f hfm k hk => ?_, fun k hk => paint_far (by have := hf.size; omega) (by have := hf.size; omega), fun k hk => by rw [paint_old (by omega)]; exact h.cB k hk⟩, (f1.mono fun _ _ e => e.elim).trans3 hf fun k _ e => by rw [e, h.cb]; simp⟩
  · rcases List.mem_append.1 hfm with a | a
    · exact (g1.each f a).fr hf fun k hk => ne (h.cE f a k hk) (by simp)
    · obtain rfl := List.mem_singleton.1 a
      exact (h1.rebase hbR).fr hf hnb
  · rcases List.mem_append.1 hfm with a | a
    · rw [paint_old ((h.each f a).lt k hk).2]; exact h.cE f a k hk
    · obtain rfl := List.mem_singleton.1 a
      exact paint_new (h1.lt k hk).1 (h1.lt k hk).2
/-- the book changed: fewer rooms -/
theorem RsPh.lessTo (h : RsPh base w R t b tr X C mr mj mb Q L) {Q' : List RmE} (hs : ∀ e ∈ Q', e ∈ Q) (hbok : BokP base w' t b mr (Q'.map entE)) (hf : Fr (fun j => j = b) w w') :
    RsPh base w' R t b tr X C mr mj mb Q' L ∧ Fr (fun k => C k ≠ tag0) w w' := by
  have ne : ∀ {k : Nat} {g : Tag}, C k = g → g ≠ (2, []) → ¬ k = b := fun e1 hg hx => hg (by rw [← e1, hx, h.cb])
  exact ⟨⟨hf.blk h.self (ne h.cR (by simp)), hbok, h.rel.fr hf fun j hj => ne (h.cX j hj) (by simp), fun f hfm => (h.each f (hs f hfm)).fr hf fun k hk => ne (h.cE f (hs f hfm) k hk) (by simp), h.cR, h.ct, h.cb, h.cX, fun f hfm => h.cE f (hs f hfm), fun k hk => h.cN k (Nat.le_trans hf.size hk), h.cB⟩, hf.mono fun k _ e => by rw [e, h.cb]; simp⟩
end
end Go.Proofs.YtlkeomcillencaaGreat
end
section
/- Layer 20: mathematics of all rooms; what is read of them: rooms, joined, Get, Count, Len. -/
namespace Go.Proofs.YtlkeomcillencaaGreat
open Go Go.RowKit Go.Maps Go.Lib

/-- the room under a folded name -/
def getE (Q : List RmE) (k : List UInt8) : Option RmE := Q.find? fun e => decide (keyE e = k)
theorem lookE (Q : List RmE) (k : List UInt8) : lookM (Q.map entE) k = (getE Q k).map fun e => (entE e).2 := by
  unfold lookM getE
  rw [List.find?_map, Option.map_map]
  rfl
theorem getE_mem {Q : List RmE} {k : List UInt8} {e : RmE} (h : getE Q k = some e) : e ∈ Q ∧ keyE e = k := by
  have h2 := List.find?_some h
  exact ⟨List.mem_of_find?_eq_some h, by simpa using h2⟩
theorem getE_none {Q : List RmE} {k : List UInt8} (h : getE Q k = none) : ∀ e ∈ Q, keyE e ≠ k := fun e he => by
  have := List.find?_eq_none.1 h e he
  simpa using this
theorem getE_of {Q : List RmE} (hn : (Q.map keyE).Nodup) {e : RmE} (he : e ∈ Q) : getE Q (keyE e) = some e := by
  cases hg : getE Q (keyE e) with
  | none => exact absurd rfl (getE_none hg e he)
  | some f =>
    obtain ⟨h1, h2⟩ := getE_mem hg
    obtain ⟨A, B, rfl⟩ := List.append_of_mem he
    rw [List.map_append, List.map_cons, List.nodup_append, List.nodup_cons] at hn
    rcases List.mem_append.1 h1 with a | a
    · exact absurd h2 (hn.2.2 _ (List.mem_map_of_mem a) _ (List.mem_cons_self ..))
    · rcases List.mem_cons.1 a with rfl | a
      · rfl
      · exact absurd (List.mem_map_of_mem (f := keyE) a) (h2 ▸ hn.2.1.1)
theorem delE (Q : List RmE) (k : List UInt8) : delM (Q.map entE) k = (Q.filter fun e => decide (keyE e ≠ k)).map entE := by
  unfold delM
  rw [List.filter_map]
  rfl
theorem setE_new {Q : List RmE} {k : List UInt8} (h : getE Q k = none) (e : RmE) (he : keyE e = k) : setM (Q.map entE) k (entE e).2 = (Q ++ [e]).map entE := by
  have h1 : delM (Q.map entE) k = Q.map entE := lookM_none (by rw [lookE, h]; rfl)
  unfold delM at h1
  unfold setM
  rw [h1, List.map_append]
  subst he
  rfl
/-- where a room lies -/
def ptE (o : Option RmE) : Option Addr := o.map fun e => ⟨e.B, 0, none⟩
/-- the rooms of somebody -/
def ofQ (Q : List RmE) (id : Int) : List RmE := Q.filter fun e => hasM e.r.mem id
/-- what holds of the rooms and the relation -/
structure RsLg (n : Nat) (Q : List RmE) (L : List (Int × List UInt8)) : Prop where
  pairs : ∀ id k, (id, k) ∈ L ↔ ∃ e ∈ Q, keyE e = k ∧ hasM e.r.mem id = true
  full : ∀ e ∈ Q, e.r.mem ≠ []
  qlen : Q.length ≤ n
  llen : L.length ≤ n
  mlen : ∀ e ∈ Q, e.r.mem.length ≤ n
  inv : ∀ e ∈ Q, e.r.inv = []
  nms : ∀ e ∈ Q, e.r.nm.length ≤ 1000
theorem RsLg.more {n m : Nat} {Q : List RmE} {L : List (Int × List UInt8)} (h : RsLg n Q L) (hm : n ≤ m) : RsLg m Q L := ⟨h.pairs, h.full, Nat.le_trans h.qlen hm, Nat.le_trans h.llen hm, fun e he => Nat.le_trans (h.mlen e he) hm, h.inv, h.nms⟩
theorem RsLg.of_perm {n : Nat} {Q : List RmE} {L : List (Int × List UInt8)} (h : RsLg n Q L) (hk : (Q.map keyE).Nodup) {id : Int} {xs : List (List UInt8)} (h1 : xs.Pairwise (· < ·)) (h2 : ∀ k, k ∈ xs ↔ (id, k) ∈ L) : xs.Perm ((ofQ Q id).map keyE) := by
  refine (List.perm_ext_iff_of_nodup (up_nodupS h1) (hk.sublist ((List.filter_sublist).map keyE))).2 fun k => ?_
  rw [h2, h.pairs, List.mem_map]
  constructor
  · rintro ⟨e, a, b, c⟩; exact ⟨e, List.mem_filter.2 ⟨a, c⟩, b⟩
  · rintro ⟨e, a, b⟩; exact ⟨e, (List.mem_filter.1 a).1, b, (List.mem_filter.1 a).2⟩
theorem RsLg.keyLen {n : Nat} {Q : List RmE} {L : List (Int × List UInt8)} (h : RsLg n Q L) {id : Int} {k : List UInt8} (hk : (id, k) ∈ L) : k.length ≤ 1000 := by
  obtain ⟨e, a, rfl, _⟩ := (h.pairs id k).1 hk
  unfold keyE; rw [foldL_length]; exact h.nms e a
theorem okKSI_of {k : List UInt8} (h : k.length ≤ 1000) : OkKSI k := by unfold OkKSI maxLen; omega
section
variable {base : Nat} {w w' : World} {R t b tr : Nat} {X : Nat → Prop} {C : Nat → Tag} {mr mj mb : Int} {Q : List RmE} {L : List (Int × List UInt8)}
theorem rooms_any (h : RsPh base w R t b tr X C mr mj mb Q L) : Calls Tryz.prog 52 #[.pointer (some ⟨R, 0, none⟩)] w fun e w' => e = .returned (.pointer (some ⟨t, 0, none⟩)) ∧ w' = w := by
  have c := blk_cell h.self 15
  clear h
  go_enter Tryz.func52, Tryz.ntmps52
  go_wp2_with fail
  go_ret
  exact ⟨rfl, rfl⟩
theorem joined_any (h : RsPh base w R t b tr X C mr mj mb Q L) : Calls Tryz.prog 38 #[.pointer (some ⟨R, 0, none⟩)] w fun e w' => e = .returned (.pointer (some ⟨tr, 0, none⟩)) ∧ w' = w := by
  have c := blk_cell h.self 16
  clear h
  go_enter Tryz.func38, Tryz.ntmps38
  go_wp2_with fail
  go_ret
  exact ⟨rfl, rfl⟩
theorem rooms_nil (w : World) : Calls Tryz.prog 52 #[.pointer none] w fun e w' => e = .returned (.pointer none) ∧ w' = w := by
  go_enter Tryz.func52, Tryz.ntmps52
  go_wp2_with fail
  go_ret
  exact ⟨rfl, rfl⟩
theorem joined_nil (w : World) : Calls Tryz.prog 38 #[.pointer none] w fun e w' => e = .returned (.pointer none) ∧ w' = w := by
  go_enter Tryz.func38, Tryz.ntmps38
  go_wp2_with fail
  go_ret
  exact ⟨rfl, rfl⟩
def GetP (Q : List RmE) (k : List UInt8) (w : World) (e : Ending) (w' : World) : Prop := e = .returned (.tuple #[.pointer (ptE (getE Q k)), .bool (getE Q k).isSome]) ∧ RowKit.Below w.heap.size w w'
theorem get_any (h : RsPh base w R t b tr X C mr mj mb Q L) (nm : List UInt8) (hn : nm.length ≤ 1000000) : Calls Tryz.prog 18 #[.pointer (some ⟨R, 0, none⟩), .string (bs nm)] w (GetP Q (foldL nm) w) := by
  have HR := Lib.hid (rooms_any h)
  have HG := Lib.hid (bok_getP h.bok (name := bs nm) (by simpa using hn))
  unfold GetP
  have hv : thVP ((lookM (Q.map entE) (foldL nm)).getD zeroEP).thing = .pointer (ptE (getE Q (foldL nm))) := by
    rw [lookE]
    cases getE Q (foldL nm) with
    | none => rfl
    | some e => rfl
  have hi : (lookM (Q.map entE) (foldL nm)).isSome = (getE Q (foldL nm)).isSome := by rw [lookE, Option.isSome_map]
  rw [bs_toList, hv, hi] at HG
  obtain ⟨p, hp⟩ : ∃ p, ptE (getE Q (foldL nm)) = p := ⟨_, rfl⟩
  obtain ⟨i, hi⟩ : ∃ i, (getE Q (foldL nm)).isSome = i := ⟨_, rfl⟩
  rw [hp, hi] at HG ⊢
  clear h hv hp hi
  go_enter Tryz.func18, Tryz.ntmps18
  go_wp2_with fail
  refine HR.out.mono ?_
  rintro e w1 ⟨rfl, rfl⟩
  clear HR
  go_wp2_with fail
  refine HG.out.mono ?_
  rintro e w2 ⟨rfl, hb⟩
  have HB := Lib.hid hb
  clear hb HG
  go_wp2_with fail
  go_ret2
  exact ⟨rfl, HB.out⟩
theorem get_nil (nm : ByteArray) (w : World) : Calls Tryz.prog 18 #[.pointer none, .string nm] w fun e w' => e = .returned (.tuple #[.pointer none, .bool false]) ∧ RowKit.Below w.heap.size w w' := by
  have HR := Lib.hid (rooms_nil w)
  have HG := Lib.hid (bok_get_nilP nm w)
  unfold thVP zeroEP adP at HG
  go_enter Tryz.func18, Tryz.ntmps18
  go_wp2_with fail
  refine HR.out.mono ?_
  rintro e w1 ⟨rfl, rfl⟩
  clear HR
  go_wp2_with fail
  refine HG.out.mono ?_
  rintro e w2 ⟨rfl, hb⟩
  have HB := Lib.hid hb
  clear hb HG
  go_wp2_with fail
  go_ret2
  exact ⟨rfl, HB.out⟩
theorem count_any (h : RsPh base w R t b tr X C mr mj mb Q L) {n : Nat} (hl : RsLg n Q L) {id : Int} (hid : OkKIS id) (hn : n ≤ 90000) : Calls Tryz.prog 21 #[.pointer (some ⟨R, 0, none⟩), .int .i64 id] w fun e w' => e = .returned (.int .i64 (ofQ Q id).length) ∧ w' = w := by
  have HR := Lib.hid (joined_any h)
  obtain ⟨xs, h1, h2, h3, _⟩ := ofAtIS h.rel (by have := hl.llen; omega) hid
  have HC := Lib.hid (countAtIS h.rel hid h1 h2)
  have hx : xs.length = (ofQ Q id).length := by rw [(hl.of_perm h.keys h1 h2).length_eq, List.length_map]
  rw [hx] at HC
  clear h1 h2 h3 hx h hl
  go_enter Tryz.func21, Tryz.ntmps21
  go_wp2_with fail
  refine HR.out.mono ?_
  rintro e w1 ⟨rfl, rfl⟩
  clear HR
  go_wp2_with fail
  refine HC.out.mono ?_
  rintro e w2 ⟨rfl, rfl⟩
  clear HC
  go_wp2_with fail
  go_ret
  exact ⟨rfl, rfl⟩
theorem count_nil (id : Int) (w : World) : Calls Tryz.prog 21 #[.pointer none, .int .i64 id] w fun e w' => e = .returned (.int .i64 0) ∧ w' = w := by
  have HR := Lib.hid (joined_nil w)
  have HC := Lib.hid (relCountNilIS id w)
  go_enter Tryz.func21, Tryz.ntmps21
  go_wp2_with fail
  refine HR.out.mono ?_
  rintro e w1 ⟨rfl, rfl⟩
  clear HR
  go_wp2_with fail
  refine HC.out.mono ?_
  rintro e w2 ⟨rfl, rfl⟩
  clear HC
  go_wp2_with fail
  go_ret
  exact ⟨rfl, rfl⟩
theorem len_any (h : RsPh base w R t b tr X C mr mj mb Q L) : Calls Tryz.prog 20 #[.pointer (some ⟨R, 0, none⟩)] w fun e w' => e = .returned (.int .i64 Q.length) ∧ w' = w := by
  have HR := Lib.hid (rooms_any h)
  have HC := Lib.hid (bok_lenP h.bok)
  rw [List.length_map] at HC
  clear h
  go_enter Tryz.func20, Tryz.ntmps20
  go_wp2_with fail
  refine HR.out.mono ?_
  rintro e w1 ⟨rfl, rfl⟩
  clear HR
  go_wp2_with fail
  refine HC.out.mono ?_
  rintro e w2 ⟨rfl, rfl⟩
  clear HC
  go_wp2_with fail
  go_ret
  exact ⟨rfl, rfl⟩
theorem len_nil (w : World) : Calls Tryz.prog 20 #[.pointer none] w fun e w' => e = .returned (.int .i64 0) ∧ w' = w := by
  have HR := Lib.hid (rooms_nil w)
  have HC := Lib.hid (bok_len_nilP w)
  go_enter Tryz.func20, Tryz.ntmps20
  go_wp2_with fail
  refine HR.out.mono ?_
  rintro e w1 ⟨rfl, rfl⟩
  clear HR
  go_wp2_with fail
  refine HC.out.mono ?_
  rintro e w2 ⟨rfl, rfl⟩
  clear HC
  go_wp2_with fail
  go_ret
  exact ⟨rfl, rfl⟩
end
end Go.Proofs.YtlkeomcillencaaGreat
end
section
/- Layer 20: steps one behind the other; New. -/
namespace Go.Proofs.YtlkeomcillencaaGreat
open Go Go.RowKit Go.Maps Go.Lib

/-- from one world and its colours to a later one -/
def Onto (C C1 : Nat → Tag) (w w1 : World) : Prop := (∀ k, k < w.heap.size → C1 k = C k) ∧ Fr (fun k => C k ≠ tag0) w w1
theorem Onto.refl (C : Nat → Tag) (w : World) : Onto C C w w := ⟨fun _ _ => rfl, Fr.refl _ _⟩
theorem Onto.trans {C C1 C2 : Nat → Tag} {w w1 w2 : World} (h : Onto C C1 w w1) (k : Onto C1 C2 w1 w2) : Onto C C2 w w2 :=
  ⟨fun j hj => (k.1 j (Nat.lt_of_lt_of_le hj h.2.size)).trans (h.1 j hj), h.2.trans3 k.2 fun j hj e => by rwa [h.1 j hj] at e⟩
theorem Onto.of_below (C : Nat → Tag) {w w1 : World} (h : RowKit.Below w.heap.size w w1) : Onto C C w w1 := ⟨fun _ _ => rfl, Fr.of_below h⟩
theorem Onto.of_paint {C : Nat → Tag} {w w1 : World} {m : Nat} {g : Tag} (h : Fr (fun k => C k ≠ tag0) w w1) : Onto C (paint C w.heap.size m g) w w1 := ⟨fun _ hk => paint_old hk, h⟩
theorem Onto.to {base R t b tr : Nat} {X : Nat → Prop} {C C1 : Nat → Tag} {mr mj mb : Int} {Q : List RmE} {L : List (Int × List UInt8)} {w w1 : World} (h : Onto C C1 w w1) (k : RsPh base w1 R t b tr X C1 mr mj mb Q L) : RsTo base R C mr mj mb Q L w w1 := ⟨t, b, tr, X, C1, k, h.1, h.2⟩
theorem RsTo.onto {base R : Nat} {C : Nat → Tag} {mr mj mb : Int} {Q : List RmE} {L : List (Int × List UInt8)} {w w1 : World} (h : RsTo base R C mr mj mb Q L w w1) : ∃ t b tr X C1, RsPh base w1 R t b tr X C1 mr mj mb Q L ∧ Onto C C1 w w1 := by
  obtain ⟨t, b, tr, X, C1, h1, h2, h3⟩ := h
  exact ⟨t, b, tr, X, C1, h1, h2, h3⟩
/-- all that is written lies above the base -/
theorem RsPh.up {base R t b tr : Nat} {X : Nat → Prop} {C : Nat → Tag} {mr mj mb : Int} {Q : List RmE} {L : List (Int × List UInt8)} {w w1 w0 : World} (h : RsPh base w R t b tr X C mr mj mb Q L) (hf : Fr (fun k => C k ≠ tag0) w w1) {n : Nat} (hn : n ≤ base) (hb : RowKit.Below n w0 w) (h0 : n ≤ w0.heap.size) : RowKit.Below n w0 w1 :=
  hb.trans (hf.below (Nat.le_trans h0 hb.size) fun k _ e => Nat.le_trans hn (h.lt e).1)
theorem row_baseG {W : World} {base b : Nat} {e : TypeId} {size : Nat} {v : Value} {n : Nat} {xs : List Value} (h : W.ownsRow base e size v n xs) (hb : b ≤ base) : W.ownsRow b e size v n xs := by
  obtain ⟨k1, k2⟩ := h
  refine ⟨k1, ?_⟩
  rcases k2 with k2 | ⟨g, cap, cur, k3, k4, k5⟩
  · exact .inl k2
  · exact .inr ⟨g, cap, cur, k3, by omega, k5⟩
theorem RelAtIS.rebase {base b : Nat} {w : World} {t : Nat} {X : Nat → Prop} {most : Int} {L : List (Int × List UInt8)} (h : RelAtIS base w t X most L) (hb : b ≤ base) : RelAtIS b w t X most L := by
  obtain ⟨b1, b2, T1, T2, h, hX⟩ := h
  refine ⟨b1, b2, T1, T2, ⟨by have := h.le; omega, h.blk, ?_, ?_, h.n1, h.n2, h.ap, h.t1, h.t2, h.h1, h.h2, h.nd⟩, hX⟩
  · obtain ⟨a1, a2, a3, a4⟩ := h.m1
    refine ⟨by omega, a2, fun p hp => ?_, a4⟩
    obtain ⟨⟨⟨v, s1, s2, s3⟩, s4, s5⟩, c2, c3⟩ := a3 p hp
    exact ⟨⟨⟨v, s1, s2, row_baseG s3 hb⟩, s4, s5⟩, by omega, c3⟩
  · obtain ⟨a1, a2, a3, a4⟩ := h.m2
    refine ⟨by omega, a2, fun p hp => ?_, a4⟩
    obtain ⟨⟨⟨v, s1, s2, s3⟩, s4, s5⟩, c2, c3⟩ := a3 p hp
    exact ⟨⟨⟨v, s1, s2, row_baseG s3 hb⟩, s4, s5⟩, by omega, c3⟩
/-- a configuration that sets three limits -/
def cfgV (mr mj mb : Int) : Value := .agg #[.string ⟨#[]⟩, .string ⟨#[]⟩, .string ⟨#[]⟩, .string ⟨#[]⟩, .int .i64 0, .int .i64 0, .int .i64 mj, .int .i64 mr, .int .i64 mb, .int .i64 0, .int .i64 0, .int .i64 0, .int .i64 0, .int .i64 0, .int .i64 0]
def NewRs (mr mj mb : Int) (w : World) (e : Ending) (w' : World) : Prop := ∃ R t b tr X C, e = .returned (.pointer (some ⟨R, 0, none⟩)) ∧ RsPh w.heap.size w' R t b tr X C mr mj mb [] [] ∧ RowKit.Below w.heap.size w w'
theorem rsLg_nil : RsLg 0 [] [] := ⟨fun id k => by simp, (fun e he => by cases he), Nat.le_refl _, Nat.le_refl _, (fun e he => by cases he), (fun e he => by cases he), (fun e he => by cases he)⟩
set_option maxRecDepth 100000 in
set_option maxHeartbeats 4000000 in
theorem new_any {mr mj : Int} (h1 : 0 ≤ mr ∧ mr ≤ 100000) (h2 : 0 ≤ mj ∧ mj ≤ 100000) (mb : Int) (w : World) : Calls Tryz.prog 9 #[cfgV mr mj mb] w (NewRs mr mj mb w) := by
  have HB := Lib.hid (fun W => bok_newP h1 W)
  have HP := Lib.hid (fun W => relNewIS h2 W)
  clear h1 h2
  obtain ⟨N, hN⟩ : ∃ N, w.heap.size = N := ⟨_, rfl⟩
  obtain ⟨W1, hW1⟩ : ∃ W1, (w.alloc (.cells #[.string ⟨#[]⟩, .string ⟨#[]⟩, .string ⟨#[]⟩, .string ⟨#[]⟩, .int .i64 0, .int .i64 0, .int .i64 mj, .int .i64 mr, .int .i64 mb, .int .i64 0, .int .i64 0, .int .i64 0, .int .i64 0, .int .i64 0, .int .i64 0] 28)).alloc (.cells #[.string ⟨#[]⟩, .string ⟨#[]⟩, .string ⟨#[]⟩, .string ⟨#[]⟩, .int .i64 0, .int .i64 0, .int .i64 mj, .int .i64 mr, .int .i64 mb, .int .i64 0, .int .i64 0, .int .i64 0, .int .i64 0, .int .i64 0, .int .i64 0, .pointer none, .pointer none] 78) = W1 := ⟨_, rfl⟩
  have f1 : Fr (fun _ => False) w W1 := by rw [← hW1]; exact ((Fr.refl _ w).alloc _).alloc _
  have z1 : W1.heap.size = N + 2 := by rw [← hW1, ← hN]; simp
  have k0 : W1.heap[N]? = some (.cells #[.string ⟨#[]⟩, .string ⟨#[]⟩, .string ⟨#[]⟩, .string ⟨#[]⟩, .int .i64 0, .int .i64 0, .int .i64 mj, .int .i64 mr, .int .i64 mb, .int .i64 0, .int .i64 0, .int .i64 0, .int .i64 0, .int .i64 0, .int .i64 0] 28 (0, 0)) := by rw [← hW1, ← hN]; exact blk_alloc (heap_alloc_new w _) _
  have k1 : W1.heap[N + 1]? = some (.cells #[.string ⟨#[]⟩, .string ⟨#[]⟩, .string ⟨#[]⟩, .string ⟨#[]⟩, .int .i64 0, .int .i64 0, .int .i64 mj, .int .i64 mr, .int .i64 mb, .int .i64 0, .int .i64 0, .int .i64 0, .int .i64 0, .int .i64 0, .int .i64 0, .pointer none, .pointer none] 78 (0, 0)) := by rw [← hW1, ← hN]; exact heap_alloc2_new w _ _
  have H := Lib.hid (And.intro f1 (And.intro z1 (And.intro k0 (And.intro k1 hN))))
  have HW := Lib.hid (And.intro hN hW1)
  clear f1 z1 k0 k1 hN hW1
  unfold cfgV
  go_enter Tryz.func9, Tryz.ntmps9
  go_wp2_with fail
  rw [HW.out.1]
  rw [HW.out.2]
  clear HW
  refine (HB.out W1).mono ?_
  rintro e w2 ⟨t, b, rfl, hk, hb⟩
  have f2 : Fr (fun _ => False) W1 w2 := Fr.of_below hb
  obtain ⟨f1, z1, k0, k1, hN⟩ := H.out
  have j0 := f2.blk k0 fun e => e
  have j1 := f2.blk k1 fun e => e
  have c15 := blk_cell j1 15
  have d15 := blk_free j1 15
  obtain ⟨w3, hw3⟩ : ∃ w3, w2.setCell ⟨N + 1, 15, none⟩ (.pointer (some ⟨t, 0, none⟩)) = w3 := ⟨_, rfl⟩
  have f3 : Fr (fun k => k = N + 1) w2 w3 := by rw [← hw3]; exact (Fr.refl (fun k => k = N + 1) w2).setCell ⟨N + 1, 15, none⟩ rfl _
  have l0 := f3.blk j0 (by omega)
  have l1 : w3.heap[N + 1]? = some (.cells #[.string ⟨#[]⟩, .string ⟨#[]⟩, .string ⟨#[]⟩, .string ⟨#[]⟩, .int .i64 0, .int .i64 0, .int .i64 mj, .int .i64 mr, .int .i64 mb, .int .i64 0, .int .i64 0, .int .i64 0, .int .i64 0, .int .i64 0, .int .i64 0, .pointer (some ⟨t, 0, none⟩), .pointer none] 78 (0, 0)) := by rw [← hw3]; exact blk_set j1 15 _
  have e6 := blk_cell j0 6
  have e7 : (w2.setCell ⟨N + 1, 15, none⟩ (.pointer (some ⟨t, 0, none⟩))).cell? ⟨N, 6, none⟩ = some (.int .i64 mj) := by rw [hw3]; exact blk_cell l0 6
  have htb : t ≠ N + 1 ∧ b ≠ N + 1 := by have := hk.1; have := hk.2.1; omega
  have K := Lib.hid (And.intro f1 (And.intro f2 (And.intro f3 (And.intro l1 (And.intro hk (And.intro htb (And.intro hN z1)))))))
  have HW3 := Lib.hid hw3
  clear f1 z1 k0 k1 hN hk hb f2 j0 j1 f3 l0 l1 htb hw3 H HB
  go_wp2_with fail
  rw [HW3.out]
  refine (HP.out w3).mono ?_
  rintro e w4 ⟨tr, X, rfl, hr, hx, hb⟩
  have f4 : Fr (fun _ => False) w3 w4 := Fr.of_below hb
  obtain ⟨f1, f2, f3, l1, hk, htb, hN, z1⟩ := K.out
  have j1 := f4.blk l1 fun e => e
  have c16 := blk_cell j1 16
  have d16 := blk_free j1 16
  have HQ := Lib.hid (And.intro hr (And.intro hx (And.intro f4 j1)))
  clear f1 f2 f3 l1 hk htb hN z1 hr hx hb f4 j1 HW3
  go_wp2_with fail
  go_ret
  obtain ⟨f1, f2, f3, l1, hk, htb, hN, z1⟩ := K.out
  obtain ⟨hr, hx, f4, j1⟩ := HQ.out
  obtain ⟨w5, hw5⟩ : ∃ w5, w4.setCell ⟨N + 1, 16, none⟩ (.pointer (some ⟨tr, 0, none⟩)) = w5 := ⟨_, rfl⟩
  have f5 : Fr (fun k => k = N + 1) w4 w5 := by rw [← hw5]; exact (Fr.refl (fun k => k = N + 1) w4).setCell ⟨N + 1, 16, none⟩ rfl _
  have l5 : w5.heap[N + 1]? = some (rsO mr mj mb t tr) := by rw [← hw5]; exact blk_set j1 16 _
  have s2 := f2.size
  have s3 := f3.size
  have s4 := f4.size
  have s5 := f5.size
  have hkl := bokP_lt hk
  have hk3 := bokP_fr hk f3 htb.1 htb.2
  have hk4 := bokP_fr hk3 f4 (fun e => e) fun e => e
  have hk5 := bokP_fr hk4 f5 htb.1 htb.2
  have hr5 := hr.fr f5 fun j hj => by have := hx j hj; omega
  have hXl : ∀ j, X j → w2.heap.size ≤ j ∧ j < w5.heap.size := fun j hj => ⟨by have := hx j hj; omega, (hr5.lt hj).2⟩
  have hfr : Fr (fun k => k = N + 1) w w5 := (((f1.mono (Y := fun k => k = N + 1) fun _ _ e => e.elim).trans3 f2 fun _ _ e => e.elim).trans3 f3 fun _ _ e => e).trans3 f4 (fun _ _ e => e.elim) |>.trans3 f5 fun _ _ e => e
  rw [hw5]
  refine ⟨N + 1, t, b, tr, X, fun k => if k = N + 1 then (1, []) else if k = t ∨ k = b then (2, []) else if w2.heap.size ≤ k ∧ k < w5.heap.size then (3, []) else tag0, rfl, ⟨l5, ?_, ?_, (fun e he => by cases he), ?_, ?_, ?_, ?_, (fun e he => by cases he), fun k hk => ?_, fun k hk => ?_⟩, hfr.below (Nat.le_refl _) fun k hk e => by omega⟩
  · exact ⟨by have := hk5.1; omega, by have := hk5.2.1; omega, hk5.2.2.1, hk5.2.2.2⟩
  · exact hr5.rebase (by omega)
  · simp
  · simp [htb.1]
  · simp [htb.2]
  · intro j hj
    have := hXl j hj
    rw [if_neg (by omega), if_neg (by omega), if_pos (by omega)]
  · rw [if_neg (by omega), if_neg (by omega), if_neg (by omega)]
  · have := hk4.1; have := hk4.2.1
    rw [if_neg (by omega), if_neg (by omega), if_neg (by omega)]
end Go.Proofs.YtlkeomcillencaaGreat
end
section
/- A region that draws its order, anywhere: what reads, and calls that leave a class of worlds, in whatever order. -/
namespace Go.Proofs.YtlkeomcillencaaGreat
open Go

section
variable {F : Fence} {n : Nat} {P : Program}
/-- all of it only reads, or calls what stays in the class -/
theorem wpIn_class_all {C : World → Prop} {id : Nat} {Q : Exit → Act → World → Prop} {a : Act} {w : World} {l : List Oper} (hm : P.follows .mixedOrders = true) (hnd : noDefer l.toArray = true) (hB : Region.lexB .any l.toArray = true) (hC : C w.drew)
    (h : wpQuietIn F n P l.toArray C (fun a' => ∀ w', C w' → Q .normal a' w') l a) : (Code.region id l.toArray true).wpIn F n P Q a w := by
  simp only [Region.lexB, Bool.and_eq_true] at hB
  refine wpIn_region_any hm (wpAnyIn_of_allQ (C := C) (Q := fun a' => ∀ w', C w' → Q .normal a' w') hnd (fun _ w' hw' h => h w' hw') _ _ _ _ hC ?_)
  have := wpAnyQIn_lex (F := F) (n := n) (P := P) (C := C) (md := .any) hB.1 l.toArray.toList 0 (Array.replicate l.toArray.size false) a (by simp) (by simpa using hB.2) (by simpa using h)
  simpa using this
/-- what reads ahead, or calls what stays in the class; what must come last behind it, in its order -/
theorem wpIn_class_tail {C : World → Prop} {id : Nat} {Q : Exit → Act → World → Prop} {a : Act} {w : World} {l : List Oper} (m : Nat) (hm : P.follows .mixedOrders = true) (hnd : noDefer l.toArray = true) (hB : Region.lexTailB .any l.toArray m = true) (hC : C w.drew)
    (h : wpQuietIn F n P l.toArray C (fun a' => ∀ w', C w' → wpListIn F n P l.toArray Q (l.drop m) a' w') (l.take m) a) : (Code.region id l.toArray true).wpIn F n P Q a w := by
  simp only [Region.lexTailB, Bool.and_eq_true, decide_eq_true_eq] at hB
  obtain ⟨⟨⟨⟨hsel, hn⟩, hs⟩, hc⟩, hlex⟩ := hB
  have htl : (l.take m).length = m := by simp at hn ⊢; omega
  have hdl : (l.drop m).length = l.toArray.size - m := by simp
  have inv0 : HeadInv .any l.toArray m (Array.replicate l.toArray.size false) :=
    ⟨by simp, fun j oj _ hl => (by rw [getD_replicate_false] at hl; cases hl), fun t _ ht => getD_in (by simpa using ht) (getD_replicate_false _ _)⟩
  have H := headQ_lex (F := F) (n := n) (P := P) (md := .any) (g := l.toArray.size - m) hsel hs hc hn (l.take m) 0 _ a (fun j hj => by
    have hj' : j < m := by rw [htl] at hj; exact hj
    simp [hj']) (by simpa using htl) inv0 (by rw [htl]; exact hlex) h
  refine wpIn_region_any hm ?_
  have := wpAnyIn_of_headQ (Q' := Q) (g := l.toArray.size - m) hnd (fun listed a' w' hw' hL => by
    have := wpAnyIn_of_seq (F := F) (n := n) (P := P) (md := .any) (Q' := Q) (l.drop m) m listed a' w' (fun j => by simp [List.getElem?_drop]) (by rw [hdl]; exact hL.1) (hL.2 w' hw')
    rwa [hdl] at this) _ _ _ _ hC H
  rw [htl, show m + (l.toArray.size - m) = l.toArray.size by simp at hn ⊢; omega] at this
  exact this
/-- one operation: one value, in every world of the class -/
theorem class_step (hF : ∀ f, F.fn f) {ops : Array Oper} {C : World → Prop} {Q : Act → Prop} {a : Act} {o : Oper} {rest : List Oper} (v : Value) (hw : Region.wanted o (yielded ops a.tmps) = true)
    (h1 : ∀ w, C w → o.quietAtIn F n P a C w v) (h2 : ∀ K : Act → Prop, (∀ a, wpQuietIn F n P ops C Q rest a → K a) → K (a.put o.dst v)) : wpQuietIn F n P ops C Q (o :: rest) a :=
  quiet_step_w hF fun K hK => by
    rw [if_pos hw]
    exact ⟨v, h1, h2 K hK⟩
end
end Go.Proofs.YtlkeomcillencaaGreat
end
