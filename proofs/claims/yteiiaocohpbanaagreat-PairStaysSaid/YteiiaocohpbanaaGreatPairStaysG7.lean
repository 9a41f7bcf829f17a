/- Texts of this proof, one behind the other. -/
import Derived.Test.YteiiaocohpbanaaGreatPairStaysG6
import Derived.Test.YteiiaocohpbanaaGreatPairStaysG3
import Derived.Test.YteiiaocohpbanaaGreatPairStaysG4
import Derived.Test.YteiiaocohpbanaaGreatPairStaysG5
import Derived.OwnWalk
import Derived.BigQuiet
section
/- Layer 11: a relation of ints and strings as it lies: New, rights, Has, Count, Len, Of, By. -/
namespace Go.Proofs.YteiiaocohpbanaaGreat
set_option linter.unusedVariables false
set_option linter.unusedSimpArgs false
open Go Go.RowKit Go.Maps Go.Lib

/-- a relation as it lies: its block, its maps, how many may be, the pairs as they came -/
structure RelStIS (base : Nat) (w : World) (t b1 b2 : Nat) (most : Int) (L : List ((Int) × (List UInt8))) (T1 : List ((Int) × SetE (List UInt8))) (T2 : List ((List UInt8) × SetE (Int))) : Prop where
  le : base ≤ t
  blk : w.heap[t]? = some (.cells #[.int .i64 most, .int .i64 L.length, .map (some b1), .map (some b2)] 66 (0, 0))
  m1 : MapStIS base w b1 T1
  m2 : MapStSI base w b2 T2
  n1 : NeTIS T1
  n2 : NeTSI T2
  ap : ∀ j, BlP b1 T1 j → ¬ BlP b2 T2 j
  t1 : ¬ BlP b1 T1 t
  t2 : ¬ BlP b2 T2 t
  h1 : ∀ a b, b ∈ lk T1 a ↔ (a, b) ∈ L
  h2 : ∀ a b, a ∈ lk T2 b ↔ (a, b) ∈ L
  nd : L.Nodup
theorem RelStIS.same {base : Nat} {w w' : World} {t b1 b2 : Nat} {most : Int} {L : List ((Int) × (List UInt8))} {T1 : List ((Int) × SetE (List UInt8))} {T2 : List ((List UInt8) × SetE (Int))} (h : RelStIS base w t b1 b2 most L T1 T2)
    (hs : ∀ j, (j = t ∨ BlP b1 T1 j ∨ BlP b2 T2 j) → w'.heap[j]? = w.heap[j]?) : RelStIS base w' t b1 b2 most L T1 T2 :=
  ⟨h.le, (hs t (.inl rfl)).trans h.blk, mapStIS_same h.m1 fun j hj => hs j (.inr (.inl hj)), mapStSI_same h.m2 fun j hj => hs j (.inr (.inr hj)), h.n1, h.n2, h.ap, h.t1, h.t2, h.h1, h.h2, h.nd⟩
theorem RelStIS.lt {base : Nat} {w : World} {t b1 b2 : Nat} {most : Int} {L : List ((Int) × (List UInt8))} {T1 : List ((Int) × SetE (List UInt8))} {T2 : List ((List UInt8) × SetE (Int))} (h : RelStIS base w t b1 b2 most L T1 T2)
    {j : Nat} (hj : j = t ∨ BlP b1 T1 j ∨ BlP b2 T2 j) : base ≤ j ∧ j < w.heap.size := by
  rcases hj with rfl | hj | hj
  · exact ⟨h.le, blk_lt h.blk⟩
  · exact blPIS_lt h.m1 hj
  · exact blPSI_lt h.m2 hj
theorem RelStIS.keys {base : Nat} {w : World} {t b1 b2 : Nat} {most : Int} {L : List ((Int) × (List UInt8))} {T1 : List ((Int) × SetE (List UInt8))} {T2 : List ((List UInt8) × SetE (Int))} (h : RelStIS base w t b1 b2 most L T1 T2) :
    T1.length ≤ L.length ∧ T2.length ≤ L.length ∧ (∀ a, (lk T1 a).length ≤ L.length) ∧ ∀ b, (lk T2 b).length ≤ L.length := by
  refine ⟨keys_le (mapStIS_nodup h.m1) h.n1 fun a b hb => (h.h1 a b).1 hb, ?_, fun a => lk_le (up_nodupS (lkUpIS h.m1 a)) fun b hb => (h.h1 a b).1 hb, fun b => ?_⟩
  · have := keys_le (L := L.map fun p => (p.2, p.1)) (mapStSI_nodup h.m2) h.n2 fun b a ha => List.mem_map.2 ⟨(a, b), (h.h2 a b).1 ha, rfl⟩
    simpa using this
  · have := lk_le (L := L.map fun p => (p.2, p.1)) (a := b) (up_nodup (lkUpSI h.m2 b)) fun a ha => List.mem_map.2 ⟨(a, b), (h.h2 a b).1 ha, rfl⟩
    simpa using this
section
variable {base : Nat} {w : World} {t b1 b2 : Nat} {most : Int} {L : List ((Int) × (List UInt8))} {T1 : List ((Int) × SetE (List UInt8))} {T2 : List ((List UInt8) × SetE (Int))}
set_option maxHeartbeats 1000000 in
theorem rightsIS (h : RelStIS base w t b1 b2 most L T1 T2) {a : Int} (ha : OkKIS a) :
    Calls Tryz.prog 36 #[.pointer (some ⟨t, 0, none⟩), .int .i64 a] w fun e w' => e = .returned (.pointer ((lookM T1 a).map fun e => ⟨e.s, 0, none⟩)) ∧ w' = w := by
  have c2 := blk_cell h.blk 2
  have hlook := mlookIS h.m1.2.1 ha
  rw [kp_look, Option.map_map] at hlook
  unfold kVIS at hlook
  obtain ⟨p, hp⟩ : ∃ p, Option.map ((fun s => (⟨s, 0, none⟩ : Addr)) ∘ fun x => x.s) (lookM T1 a) = p := ⟨_, rfl⟩
  rw [hp] at hlook
  have HP := Lib.hid hp
  clear hp h
  go_enter Tryz.func36, Tryz.ntmps36
  go_wp2_with fail
  go_ret
  exact ⟨by rw [← HP.out]; rfl, rfl⟩
theorem hasEqIS (h : RelStIS base w t b1 b2 most L T1 T2) (a : Int) (b : List UInt8) : (lk T1 a).contains b = decide ((a, b) ∈ L) := by
  rw [Bool.eq_iff_iff, List.contains_iff_mem, decide_eq_true_iff]
  exact h.h1 a b
set_option maxHeartbeats 1000000 in
theorem relHasIS (h : RelStIS base w t b1 b2 most L T1 T2) (hL : L.length ≤ 100000) {a : Int} (ha : OkKIS a) (b : List UInt8) :
    Calls Tryz.prog 17 #[.pointer (some ⟨t, 0, none⟩), .int .i64 a, .string (bs b)] w fun e w' => e = .returned (.bool (decide ((a, b) ∈ L))) ∧ ∃ q, w' = w.drewN q := by
  have hr := rightsIS h ha
  have hq := hasEqIS h a b
  have hk := (h.keys).2.2.1 a
  cases hl : lookM T1 a with
  | none =>
    rw [hl] at hr
    rw [lk_noneIS hl] at hq
    rw [← hq]
    have HS := Lib.hid (set_has_nilS b w)
    have HR := Lib.hid hr
    clear hr hq h hl
    go_enter Tryz.func17, Tryz.ntmps17
    go_wp2_with fail
    refine HR.out.mono ?_
    rintro e w1 ⟨rfl, rfl⟩
    go_wp2_with fail
    refine HS.out.mono ?_
    rintro e w2 ⟨rfl, rfl⟩
    go_wp2_with fail
    go_ret
    exact ⟨rfl, 0, rfl⟩
  | some e =>
    rw [hl] at hr
    rw [lk_someIS hl] at hq hk
    rw [← hq]
    have HS := Lib.hid (set_hasS (h.m1.2.2.1 _ (lookM_memP hl)).1 (by dsimp only []; omega) b)
    have HR := Lib.hid hr
    obtain ⟨es, eob, exs⟩ := e
    dsimp only [Option.map_some] at HR HS
    dsimp only []
    obtain ⟨d, hd⟩ : ∃ d, exs.contains b = d := ⟨_, rfl⟩
    rw [hd] at HS ⊢
    clear hr hq h hl hd
    go_enter Tryz.func17, Tryz.ntmps17
    go_wp2_with fail
    refine HR.out.mono ?_
    rintro e w1 ⟨rfl, rfl⟩
    go_wp2_with fail
    refine HS.out.mono ?_
    rintro e w2 ⟨rfl, q, rfl⟩
    go_wp2_with fail
    go_ret
    exact ⟨rfl, q, rfl⟩
set_option maxHeartbeats 1000000 in
theorem relCountIS (h : RelStIS base w t b1 b2 most L T1 T2) {a : Int} (ha : OkKIS a) :
    Calls Tryz.prog 19 #[.pointer (some ⟨t, 0, none⟩), .int .i64 a] w fun e w' => e = .returned (.int .i64 (lk T1 a).length) ∧ w' = w := by
  have hr := rightsIS h ha
  cases hl : lookM T1 a with
  | none =>
    rw [hl] at hr
    rw [lk_noneIS hl]
    have HS := Lib.hid (set_len_nilS w)
    have HR := Lib.hid hr
    clear hr h hl
    go_enter Tryz.func19, Tryz.ntmps19
    go_wp2_with fail
    refine HR.out.mono ?_
    rintro e w1 ⟨rfl, rfl⟩
    go_wp2_with fail
    refine HS.out.mono ?_
    rintro e w2 ⟨rfl, rfl⟩
    go_wp2_with fail
    go_ret
    exact ⟨rfl, rfl⟩
  | some e =>
    rw [hl] at hr
    rw [lk_someIS hl]
    have HS := Lib.hid (set_lenS (h.m1.2.2.1 _ (lookM_memP hl)).1)
    have HR := Lib.hid hr
    obtain ⟨es, eob, exs⟩ := e
    dsimp only [Option.map_some] at HR HS
    dsimp only []
    clear hr h hl
    go_enter Tryz.func19, Tryz.ntmps19
    go_wp2_with fail
    refine HR.out.mono ?_
    rintro e w1 ⟨rfl, rfl⟩
    go_wp2_with fail
    refine HS.out.mono ?_
    rintro e w2 ⟨rfl, rfl⟩
    go_wp2_with fail
    go_ret
    exact ⟨rfl, rfl⟩
set_option maxHeartbeats 1000000 in
theorem relLenIS (h : RelStIS base w t b1 b2 most L T1 T2) :
    Calls Tryz.prog 16 #[.pointer (some ⟨t, 0, none⟩)] w fun e w' => e = .returned (.int .i64 L.length) ∧ w' = w := by
  have c1 := blk_cell h.blk 1
  clear h
  go_enter Tryz.func16, Tryz.ntmps16
  go_wp2_with fail
  go_ret
  exact ⟨rfl, rfl⟩
set_option maxHeartbeats 1000000 in
theorem relOfIS (h : RelStIS base w t b1 b2 most L T1 T2) (hL : L.length ≤ 100000) {a : Int} (ha : OkKIS a) :
    Calls Tryz.prog 32 #[.pointer (some ⟨t, 0, none⟩), .int .i64 a] w (AllPS (lk T1 a) w) := by
  have hr := rightsIS h ha
  have hk := (h.keys).2.2.1 a
  have HR := Lib.hid hr
  have HA : Hid (Calls Tryz.prog 48 #[.pointer ((lookM T1 a).map fun e => ⟨e.s, 0, none⟩)] w (AllPS (lk T1 a) w)) := by
    cases hl : lookM T1 a with
    | none => rw [lk_noneIS hl]; exact set_all_nilS w
    | some e => rw [lk_someIS hl]; exact set_allS (h.m1.2.2.1 _ (lookM_memP hl)).1 (by rw [lk_someIS hl] at hk; exact Nat.le_trans hk (by omega))
  clear hr h
  obtain ⟨p, hp⟩ : ∃ p, (lookM T1 a).map (fun e => (⟨e.s, 0, none⟩ : Addr)) = p := ⟨_, rfl⟩
  rw [hp] at HR HA
  clear hp
  go_enter Tryz.func32, Tryz.ntmps32
  go_wp2_with fail
  refine HR.out.mono ?_
  rintro e w1 ⟨rfl, rfl⟩
  go_wp2_with fail
  refine HA.out.mono ?_
  intro e w2 h
  obtain ⟨⟨F, rfl, h4⟩, h5⟩ := h
  have H2 := Lib.hid (And.intro h4 h5)
  clear h4 h5
  go_wp2_with fail
  go_ret
  exact ⟨⟨_, rfl, H2.out.1⟩, H2.out.2⟩
set_option maxHeartbeats 1000000 in
theorem relByIS (h : RelStIS base w t b1 b2 most L T1 T2) (hL : L.length ≤ 100000) {b : List UInt8} (hb : OkKSI b) :
    Calls Tryz.prog 35 #[.pointer (some ⟨t, 0, none⟩), .string (bs b)] w (AllP (lk T2 b) w) := by
  have c3 := blk_cell h.blk 3
  have hlook := mlookSI h.m2.2.1 hb
  rw [kp_look, Option.map_map] at hlook
  unfold kVSI at hlook
  have hk := (h.keys).2.2.2 b
  have HA : Hid (Calls Tryz.prog 43 #[.pointer ((lookM T2 b).map fun e => ⟨e.s, 0, none⟩)] w (AllP (lk T2 b) w)) := by
    cases hl : lookM T2 b with
    | none => rw [lk_noneSI hl]; exact set_all_nil w
    | some e => rw [lk_someSI hl]; exact set_all (h.m2.2.2.1 _ (lookM_memP hl)).1 (by rw [lk_someSI hl] at hk; exact Nat.le_trans hk (by omega))
  obtain ⟨p, hp⟩ : ∃ p, Option.map ((fun s => (⟨s, 0, none⟩ : Addr)) ∘ fun x => x.s) (lookM T2 b) = p := ⟨_, rfl⟩
  rw [hp] at hlook
  have hp2 : (lookM T2 b).map (fun e => (⟨e.s, 0, none⟩ : Addr)) = p := hp
  rw [hp2] at HA
  clear hp hp2 h
  go_enter Tryz.func35, Tryz.ntmps35
  go_wp2_with fail
  refine HA.out.mono ?_
  intro e w2 h
  obtain ⟨⟨F, rfl, h4⟩, h5⟩ := h
  have H2 := Lib.hid (And.intro h4 h5)
  clear h4 h5
  go_wp2_with fail
  go_ret
  exact ⟨⟨_, rfl, H2.out.1⟩, H2.out.2⟩
end
end Go.Proofs.YteiiaocohpbanaaGreat
end
section
/- Layer 11: a relation of ints and strings: New, Add, Remove; nil ones. -/
namespace Go.Proofs.YteiiaocohpbanaaGreat
set_option linter.unusedVariables false
set_option linter.unusedSimpArgs false
open Go Go.RowKit Go.Maps Go.Lib

/-- a relation, in words of the blocks that it has -/
def RelAtIS (base : Nat) (w : World) (t : Nat) (X : Nat → Prop) (most : Int) (L : List ((Int) × (List UInt8))) : Prop := ∃ b1 b2 T1 T2, RelStIS base w t b1 b2 most L T1 T2 ∧ ∀ j, X j ↔ (j = t ∨ BlP b1 T1 j ∨ BlP b2 T2 j)
theorem RelAtIS.same {base : Nat} {w w' : World} {t : Nat} {X : Nat → Prop} {most : Int} {L : List ((Int) × (List UInt8))} (h : RelAtIS base w t X most L) (hs : ∀ j, X j → w'.heap[j]? = w.heap[j]?) : RelAtIS base w' t X most L := by
  obtain ⟨b1, b2, T1, T2, h1, h2⟩ := h
  exact ⟨b1, b2, T1, T2, h1.same fun j hj => hs j ((h2 j).2 hj), h2⟩
theorem RelAtIS.lt {base : Nat} {w : World} {t : Nat} {X : Nat → Prop} {most : Int} {L : List ((Int) × (List UInt8))} (h : RelAtIS base w t X most L) {j : Nat} (hj : X j) : base ≤ j ∧ j < w.heap.size := by
  obtain ⟨b1, b2, T1, T2, h1, h2⟩ := h
  exact h1.lt ((h2 j).1 hj)
theorem RelAtIS.fr {base : Nat} {w w' : World} {t : Nat} {X Z : Nat → Prop} {most : Int} {L : List ((Int) × (List UInt8))} (h : RelAtIS base w t X most L) (hf : Fr Z w w') (hz : ∀ j, X j → ¬ Z j) : RelAtIS base w' t X most L := h.same fun j hj => hf.block j (h.lt hj).2 (hz j hj)
theorem RelAtIS.own {base : Nat} {w : World} {t : Nat} {X : Nat → Prop} {most : Int} {L : List ((Int) × (List UInt8))} (h : RelAtIS base w t X most L) : X t := by
  obtain ⟨b1, b2, T1, T2, h1, h2⟩ := h
  exact (h2 t).2 (.inl rfl)
theorem RelAtIS.nodup {base : Nat} {w : World} {t : Nat} {X : Nat → Prop} {most : Int} {L : List ((Int) × (List UInt8))} (h : RelAtIS base w t X most L) : L.Nodup := by
  obtain ⟨b1, b2, T1, T2, h1, h2⟩ := h
  exact h1.nd
/-- a new one -/
def NewRIS (most : Int) (w : World) (e : Ending) (w' : World) : Prop := ∃ t X, e = .returned (.tuple #[.pointer (some ⟨t, 0, none⟩), .int .i64 0]) ∧ RelAtIS w.heap.size w' t X most [] ∧ (∀ j, X j → w.heap.size ≤ j) ∧ Below w.heap.size w w'
set_option maxHeartbeats 1000000 in
theorem relNewIS {most : Int} (hm : 0 ≤ most ∧ most ≤ 100000) (w : World) : Calls Tryz.prog 8 #[.int .i64 most] w (NewRIS most w) := by
  have hmm := @run_makeMap Tryz.prog
  have p1 : decide (most < 0) = false := by simp; omega
  have p2 : decide (100000 < most) = false := by simp; omega
  have p3 : ¬ most < 0 := by omega
  have p4 : ¬ 100000 < most := by omega
  go_enter Tryz.func8, Tryz.ntmps8
  go_wp2_with fail
  go_ret2
  have z1 : (w.alloc (Obj.map #[] 0)).heap.size = w.heap.size + 1 := World.size_alloc _ _
  have z2 : ((w.alloc (Obj.map #[] 0)).alloc (Obj.map #[] 0)).heap.size = w.heap.size + 2 := by rw [World.size_alloc, World.size_alloc]
  refine ⟨w.heap.size + 2, fun j => j = w.heap.size + 2 ∨ j = w.heap.size ∨ j = w.heap.size + 1, rfl, ⟨w.heap.size, w.heap.size + 1, [], [], ⟨by omega, ?_, ?_, ?_, (fun p hp => by cases hp), (fun p hp => by cases hp), ?_, ?_, ?_, ?_, ?_, List.nodup_nil⟩, fun j => ?_⟩, fun j hj => by omega, (((Below.refl _ _).alloc (Nat.le_refl _) _).alloc (by omega) _).alloc (by omega) _⟩
  · have := heap_alloc_new ((w.alloc (Obj.map #[] 0)).alloc (Obj.map #[] 0)) (Obj.cells #[Value.int .i64 most, Value.int .i64 0, Value.map (some w.heap.size), Value.map (some (w.heap.size + 1))] 66)
    rwa [z2] at this
  · exact made_stIS (Nat.le_refl _) ⟨0, ((World.ownsMap_made w _ _ _).alloc _).alloc _, rfl⟩
  · have := ((World.ownsMap_made (P := Tryz.prog) (w.alloc (Obj.map #[] 0)) 9 ptrE).alloc (Obj.cells #[Value.int .i64 most, Value.int .i64 0, Value.map (some w.heap.size), Value.map (some (w.heap.size + 1))] 66))
    rw [z1] at this
    exact made_stSI (by omega) ⟨0, this, rfl⟩
  · rintro j (rfl | ⟨p, hp, _⟩) (h | ⟨p, hp, _⟩)
    · omega
    · cases hp
    · cases hp
    · cases hp
  · rintro (h | ⟨p, hp, _⟩)
    · omega
    · cases hp
  · rintro (h | ⟨p, hp, _⟩)
    · omega
    · cases hp
  · intro a b; simp [lk, lookM]
  · intro a b; simp [lk, lookM]
  · simp [BlP]
set_option maxHeartbeats 1000000 in
theorem relNewBadIS {most : Int} (hm : most < 0 ∨ 100000 < most) (w : World) : Calls Tryz.prog 8 #[.int .i64 most] w fun e w' => e = .returned (.tuple #[.pointer none, .int .i64 2]) ∧ w' = w := by
  by_cases h0 : most < 0
  · have p1 : decide (most < 0) = true := by simp; omega
    go_enter Tryz.func8, Tryz.ntmps8
    go_wp2_with fail
    go_ret2
    exact ⟨rfl, rfl⟩
  · have p1 : decide (most < 0) = false := by simp; omega
    have p2 : decide (100000 < most) = true := by simp; omega
    have p4 : 100000 < most := by omega
    go_enter Tryz.func8, Tryz.ntmps8
    go_wp2_with fail
    go_ret2
    exact ⟨rfl, rfl⟩
theorem insMemIS (xs : List (List UInt8)) (x y : List UInt8) : y ∈ insIS xs x ↔ y = x ∨ y ∈ xs := insI_memS xs x y
/-- a pair came: the state of it -/
theorem add_stIS {base : Nat} {w w1 w2 : World} {t b1 b2 : Nat} {most : Int} {L : List ((Int) × (List UInt8))} {T1 : List ((Int) × SetE (List UInt8))} {T2 : List ((List UInt8) × SetE (Int))} (h : RelStIS base w t b1 b2 most L T1 T2)
    {a : Int} {b : List UInt8} (hn : (a, b) ∉ L) (h1 : PutPIS base b1 T1 a (insIS (lk T1 a) b) w w1) (h2 : PutPSI base b2 T2 b (insI (lk T2 b) a) w1 w2) :
    ∃ X', RelAtIS base (w2.setCell ⟨t, 1, none⟩ (.int .i64 ((L.length : Int) + 1))) t X' most (L ++ [(a, b)]) ∧ (∀ j, X' j → (j = t ∨ BlP b1 T1 j ∨ BlP b2 T2 j) ∨ w.heap.size ≤ j) ∧ Fr (fun j => j = t ∨ BlP b1 T1 j ∨ BlP b2 T2 j) w (w2.setCell ⟨t, 1, none⟩ (.int .i64 ((L.length : Int) + 1))) := by
  obtain ⟨T1', p1, p2, p3, p4, p5, p6⟩ := h1
  obtain ⟨T2', q1, q2, q3, q4, q5, q6⟩ := h2
  have hz := p4.size
  have l1 : ∀ j, BlP b1 T1 j → j < w.heap.size := fun j hj => (blPIS_lt h.m1 hj).2
  have l2 : ∀ j, BlP b2 T2 j → j < w.heap.size := fun j hj => (blPSI_lt h.m2 hj).2
  have l1' : ∀ j, BlP b1 T1' j → j < w1.heap.size := fun j hj => (blPIS_lt p1 hj).2
  have lt := blk_lt h.blk
  have sep : ∀ j, BlP b1 T1' j → ¬ BlP b2 T2' j := fun j hj hj2 => by
    rcases p5 j hj with e | e
    · rcases q5 j hj2 with e2 | e2
      · exact h.ap j e e2
      · have := l1 j e; omega
    · rcases q5 j hj2 with e2 | e2
      · have := l2 j e2; omega
      · have := l1' j hj; omega
  have t1' : ¬ BlP b1 T1' t := fun e => by
    rcases p5 t e with e | e
    · exact h.t1 e
    · omega
  have t2' : ¬ BlP b2 T2' t := fun e => by
    rcases q5 t e with e | e
    · exact h.t2 e
    · omega
  have m1 : MapStIS base w2 b1 T1' := mapStIS_fr p1 q4 fun j hj e => by
    rcases p5 j hj with e1 | e1
    · exact h.ap j e1 e
    · have := l2 j e; omega
  have fc : Fr (fun j => j = t) w2 (w2.setCell ⟨t, 1, none⟩ (.int .i64 ((L.length : Int) + 1))) := Fr.setCell (X := fun j => j = t) (Fr.refl _ w2) _ rfl _
  have hb2 : w2.heap[t]? = some (.cells #[.int .i64 most, .int .i64 L.length, .map (some b1), .map (some b2)] 66 (0, 0)) := q4.blk (p4.blk h.blk h.t1) h.t2
  refine ⟨fun j => j = t ∨ BlP b1 T1' j ∨ BlP b2 T2' j, ⟨b1, b2, T1', T2', ⟨h.le, ?_, mapStIS_fr m1 fc fun j hj e => t1' (e ▸ hj), mapStSI_fr q1 fc fun j hj e => t2' (e ▸ hj), p3 h.n1, q3 h.n2, sep, t1', t2', fun a' b' => ?_, fun a' b' => ?_, ?_⟩, fun j => Iff.rfl⟩, fun j hj => ?_, ?_⟩
  · have := blk_set hb2 1 (.int .i64 ((L.length : Int) + 1))
    rw [this, List.length_append, List.length_singleton]
    rfl
  · rw [p2, List.mem_append, List.mem_singleton]
    by_cases e : a' = a
    · subst e
      rw [if_pos rfl, insI_memS, h.h1]
      simp [or_comm]
    · rw [if_neg e, h.h1]
      simp [e]
  · rw [q2, List.mem_append, List.mem_singleton]
    by_cases e : b' = b
    · subst e
      rw [if_pos rfl, insI_mem, h.h2]
      simp [or_comm]
    · rw [if_neg e, h.h2]
      simp [e]
  · rw [List.nodup_append]
    refine ⟨h.nd, by simp, fun x hx y hy e => ?_⟩
    rw [List.mem_singleton] at hy
    exact hn (by rw [← hy, ← e]; exact hx)
  · rcases hj with rfl | hj | hj
    · exact .inl (.inl rfl)
    · rcases p5 j hj with e | e
      · exact .inl (.inr (.inl e))
      · exact .inr e
    · rcases q5 j hj with e | e
      · exact .inl (.inr (.inr e))
      · exact .inr (by omega)
  · exact ((p4.mono fun j _ e => .inr (.inl e) : Fr (fun j => j = t ∨ BlP b1 T1 j ∨ BlP b2 T2 j) w w1).trans3 q4 fun j _ e => .inr (.inr e)).trans3 fc fun j _ e => .inl e
/-- what Add does -/
def AddRIS (base t : Nat) (X : Nat → Prop) (most : Int) (L : List ((Int) × (List UInt8))) (a : Int) (b : List UInt8) (w : World) (e : Ending) (w' : World) : Prop :=
  ∃ X', (∀ j, X' j → X j ∨ w.heap.size ≤ j) ∧ Fr X w w' ∧
    (((a, b) ∈ L ∧ e = .returned (.int .i64 6) ∧ RelAtIS base w' t X' most L) ∨
     ((a, b) ∉ L ∧ (∀ xs : List (List UInt8), xs.Pairwise (· < ·) → (∀ x, x ∈ xs ↔ (a, x) ∈ L) → most ≤ xs.length) ∧ e = .returned (.int .i64 7) ∧ RelAtIS base w' t X' most L) ∨
     ((a, b) ∉ L ∧ (∀ xs : List (List UInt8), xs.Pairwise (· < ·) → (∀ x, x ∈ xs ↔ (a, x) ∈ L) → (xs.length : Int) < most) ∧ e = .returned (.int .i64 0) ∧ RelAtIS base w' t X' most (L ++ [(a, b)])))
set_option maxRecDepth 100000 in
set_option maxHeartbeats 4000000 in
theorem relAddIS {base : Nat} {w : World} {t : Nat} {X : Nat → Prop} {most : Int} {L : List ((Int) × (List UInt8))} (h : RelAtIS base w t X most L) (hbw : base ≤ w.heap.size) (hL : L.length ≤ 90000) {a : Int} (ha : OkKIS a) {b : List UInt8} (hb : OkKSI b) :
    Calls Tryz.prog 12 #[.pointer (some ⟨t, 0, none⟩), .int .i64 a, .string (bs b)] w (AddRIS base t X most L a b w) := by
  obtain ⟨b1, b2, T1, T2, hR, hX⟩ := h
  have HH := relHasIS hR (by omega) ha b
  have hks := hR.keys
  obtain ⟨d, hd⟩ : ∃ d, decide ((a, b) ∈ L) = d := ⟨_, rfl⟩
  rw [hd] at HH
  have HHas := Lib.hid HH
  have H := Lib.hid (And.intro hR (And.intro hX hd))
  have HC : Hid (∀ V : World, V.heap = w.heap → Calls Tryz.prog 19 #[.pointer (some ⟨t, 0, none⟩), .int .i64 a] V fun e w' => e = .returned (.int .i64 (lk T1 a).length) ∧ w' = V) := fun V hV => relCountIS (hR.same fun j _ => by rw [hV] : RelStIS base V t b1 b2 most L T1 T2) ha
  have hsz := hks.2.2.1 a
  obtain ⟨n, hn⟩ : ∃ n, (lk T1 a).length = n := ⟨_, rfl⟩
  rw [hn] at HC hsz
  have HN := Lib.hid (And.intro hn hks)
  have HA := Lib.hid (And.intro ha hb)
  have c0 := blk_cell hR.blk 0
  have c1 := blk_cell hR.blk 1
  have c2 := blk_cell hR.blk 2
  have c3 := blk_cell hR.blk 3
  clear HH hR hX hd hks hn ha hb
  go_enter Tryz.func12, Tryz.ntmps12
  go_wp2_with fail
  refine HHas.out.mono ?_
  rintro e w1 ⟨rfl, q, rfl⟩
  have same : ∀ W : World, W.heap = w.heap → Fr (fun _ => False) w W → ∀ e, (((a, b) ∈ L ∧ e = .returned (.int .i64 6)) ∨ ((a, b) ∉ L ∧ (∀ xs : List (List UInt8), xs.Pairwise (· < ·) → (∀ x, x ∈ xs ↔ (a, x) ∈ L) → most ≤ xs.length) ∧ e = .returned (.int .i64 7))) → AddRIS base t X most L a b w e W := by
    intro W hW hf e he
    obtain ⟨hR, hX, hd⟩ := H.out
    have hAt : RelAtIS base W t X most L := ⟨b1, b2, T1, T2, hR.same fun _ _ => by rw [hW], hX⟩
    refine ⟨X, fun j hj => .inl hj, hf.mono fun _ _ e => e.elim, ?_⟩
    rcases he with ⟨h1, rfl⟩ | ⟨h1, h2, rfl⟩
    · exact .inl ⟨h1, rfl, hAt⟩
    · exact .inr (.inl ⟨h1, h2, rfl, hAt⟩)
  have HS := Lib.hid same
  clear same
  cases d with
  | true =>
    go_wp2_with fail
    go_ret
    exact HS.out (w.drewN q) rfl ((Fr.refl _ w).drewN q) _ (.inl ⟨by simpa using H.out.2.2, rfl⟩)
  | false =>
    have hnot : (a, b) ∉ L := by simpa using H.out.2.2
    have HNot := Lib.hid hnot
    clear hnot
    go_wp2_with fail
    obtain ⟨W1, hW1⟩ : ∃ W1, w.drewN q = W1 := ⟨_, rfl⟩
    have e0 : W1.cell? ⟨t, 0, none⟩ = some (.int .i64 most) := by rw [← hW1]; exact c0
    have e2 : W1.cell? ⟨t, 2, none⟩ = some (.map (some b1)) := by rw [← hW1]; exact c2
    have hh : W1.heap = w.heap := by rw [← hW1]; rfl
    have HH := Lib.hid (And.intro hW1 hh)
    rw [hW1]
    clear c0 c1 c2 c3 hW1 hh
    by_cases hmost : most ≤ (n : Int)
    · have q1 : decide (most ≤ (n : Int)) = true := by simp; omega
      go_quiet ((go_at_call 19; exact Calls.quiet_of_same (HC.out _ HH.out.2)))
      go_wp2_with fail
      go_ret
      refine HS.out (W1.drewN nq) HH.out.2 (by rw [← HH.out.1]; exact ((Fr.refl _ w).drewN q).drewN nq) _ (.inr ⟨HNot.out, fun xs hx1 hx2 => ?_, rfl⟩)
      have e := up_extS hx1 (lkUpIS H.out.1.m1 a) fun x => (hx2 x).trans (H.out.1.h1 a x).symm
      rw [e, HN.out.1]; exact hmost
    · have q1 : decide (most ≤ (n : Int)) = false := by simp; omega
      go_quiet ((go_at_call 19; exact Calls.quiet_of_same (HC.out _ HH.out.2)))
      obtain ⟨V, hV⟩ : ∃ V, W1.drewN nq = V := ⟨_, rfl⟩
      rw [hV]
      have v2 : V.cell? ⟨t, 2, none⟩ = some (.map (some b1)) := by rw [← hV]; exact e2
      have hVh : V.heap = w.heap := by rw [← hV]; exact HH.out.2
      have hVf : Fr (fun _ => False) w V := by rw [← hV, ← HH.out.1]; exact ((Fr.refl _ w).drewN q).drewN nq
      have hRV : RelStIS base V t b1 b2 most L T1 T2 := H.out.1.same fun _ _ => by rw [hVh]
      have hbV : base ≤ V.heap.size := by rw [hVh]; exact hbw
      have HF := Lib.hid (fillIS hRV.m1 hbV HA.out.1 b (Nat.le_trans HN.out.2.1 (by omega)) (Nat.le_trans (HN.out.2.2.2.1 a) (by omega)))
      have HV := Lib.hid (And.intro hRV (And.intro hVh (And.intro hVf hbV)))
      clear hV e0 e2 hVh hVf hRV hbV
      go_wp2_with fail
      refine HF.out.mono ?_
      rintro e w3 ⟨rfl, hP1⟩
      obtain ⟨hRV, hVh, hVf, hbV⟩ := HV.out
      obtain ⟨T1', p1, p2, p3, p4, p5, p6⟩ := id hP1
      have hb3 := p4.blk hRV.blk hRV.t1
      have c3 := blk_cell hb3 3
      have m2 : MapStSI base w3 b2 T2 := mapStSI_fr hRV.m2 p4 fun j hj e => hRV.ap j e hj
      have HF2 := Lib.hid (fillSI m2 (Nat.le_trans hbV p4.size) HA.out.2 a (Nat.le_trans HN.out.2.2.1 (by omega)) (Nat.le_trans (HN.out.2.2.2.2 b) (by omega)))
      have HP := Lib.hid (And.intro hP1 (And.intro hb3 m2))
      clear hP1 p1 p2 p3 p4 p5 p6 hb3 m2 hRV hVh hVf hbV v2
      go_wp2_with fail
      refine HF2.out.mono ?_
      rintro e w4 ⟨rfl, hP2⟩
      obtain ⟨hRV, hVh, hVf, hbV⟩ := HV.out
      obtain ⟨hP1, hb3, m2⟩ := HP.out
      obtain ⟨T2', q1', q2, q3, q4, q5, q6⟩ := id hP2
      have hb4 := q4.blk hb3 hRV.t2
      have c1 := blk_cell hb4 1
      have f1 := blk_free hb4 1
      obtain ⟨X', hat, hx', hfr⟩ := add_stIS hRV HNot.out hP1 hP2
      have hl1 : ¬ 9223372036854775807 < (L.length : Int) + 1 := by omega
      have hl2 : (L.length : Int) ≤ 100000 := by omega
      have hl3 : 0 ≤ (L.length : Int) := by omega
      have HE : Hid (AddRIS base t X most L a b w (.returned (.int .i64 0)) (w4.setCell ⟨t, 1, none⟩ (.int .i64 ((L.length : Int) + 1)))) := by
        have hX := H.out.2.1
        refine ⟨X', fun j hj => ?_, ?_, .inr (.inr ⟨HNot.out, fun xs hx1 hx2 => ?_, rfl, hat⟩)⟩
        · rcases hx' j hj with e | e
          · exact .inl ((hX j).2 e)
          · exact .inr (by rw [← hVh]; exact e)
        · exact (hVf.mono fun _ _ e => e.elim : Fr X w V).trans3 hfr fun j _ e => (hX j).2 e
        · have e := up_extS hx1 (lkUpIS H.out.1.m1 a) fun x => (hx2 x).trans (H.out.1.h1 a x).symm
          rw [e, HN.out.1]; omega
      clear hP1 hb3 m2 hP2 q1' q2 q3 q4 q5 q6 hb4 hat hx' hfr hRV hVh hVf hbV
      go_wp2_with fail
      go_ret
      exact HE.out
end Go.Proofs.YteiiaocohpbanaaGreat
end
section
/- Layer 11: a relation of ints and strings: Remove; nil ones. -/
namespace Go.Proofs.YteiiaocohpbanaaGreat
set_option linter.unusedVariables false
set_option linter.unusedSimpArgs false
open Go Go.RowKit Go.Maps Go.Lib

def lessLIS (L : List ((Int) × (List UInt8))) (a : Int) (b : List UInt8) : List ((Int) × (List UInt8)) := L.filter fun p => decide (p ≠ (a, b))
theorem lessMemIS {L : List ((Int) × (List UInt8))} {a : Int} {b : List UInt8} {p : (Int) × (List UInt8)} : p ∈ lessLIS L a b ↔ p ∈ L ∧ p ≠ (a, b) := by unfold lessLIS; rw [List.mem_filter]; simp
theorem lessNotIS {L : List ((Int) × (List UInt8))} {a : Int} {b : List UInt8} (h : (a, b) ∉ L) : lessLIS L a b = L := by
  unfold lessLIS
  rw [List.filter_eq_self]
  intro p hp
  simp only [decide_eq_true_eq]
  exact fun e => h (e ▸ hp)
theorem lessLenIS {L : List ((Int) × (List UInt8))} {a : Int} {b : List UInt8} (hn : L.Nodup) (h : (a, b) ∈ L) : (lessLIS L a b).length + 1 = L.length := by
  induction L with
  | nil => cases h
  | cons x r ih =>
    rw [List.nodup_cons] at hn
    unfold lessLIS at ih ⊢
    by_cases e : x = (a, b)
    · subst e
      rw [List.filter_cons_of_neg (by simp)]
      have := lessNotIS hn.1
      unfold lessLIS at this
      rw [this, List.length_cons]
    · rw [List.filter_cons_of_pos (by simpa using e), List.length_cons, List.length_cons]
      rcases List.mem_cons.1 h with h | h
      · exact absurd h.symm e
      · have := ih hn.2 h; omega
theorem rem_stIS {base : Nat} {w w1 w2 : World} {t b1 b2 : Nat} {most : Int} {L : List ((Int) × (List UInt8))} {T1 : List ((Int) × SetE (List UInt8))} {T2 : List ((List UInt8) × SetE (Int))} (h : RelStIS base w t b1 b2 most L T1 T2)
    {a : Int} {b : List UInt8} (hm : (a, b) ∈ L) (h1 : PutPIS base b1 T1 a (delIS (lk T1 a) b) w w1) (h2 : PutPSI base b2 T2 b (delI (lk T2 b) a) w1 w2) :
    ∃ X', RelAtIS base (w2.setCell ⟨t, 1, none⟩ (.int .i64 ((L.length : Int) - 1))) t X' most (lessLIS L a b) ∧ (∀ j, X' j → (j = t ∨ BlP b1 T1 j ∨ BlP b2 T2 j) ∨ w.heap.size ≤ j) ∧ Fr (fun j => j = t ∨ BlP b1 T1 j ∨ BlP b2 T2 j) w (w2.setCell ⟨t, 1, none⟩ (.int .i64 ((L.length : Int) - 1))) := by
  have hlen := lessLenIS h.nd hm
  obtain ⟨T1', p1, p2, p3, p4, p5, p6⟩ := h1
  obtain ⟨T2', q1, q2, q3, q4, q5, q6⟩ := h2
  have hz := p4.size
  have l1 : ∀ j, BlP b1 T1 j → j < w.heap.size := fun j hj => (blPIS_lt h.m1 hj).2
  have l2 : ∀ j, BlP b2 T2 j → j < w.heap.size := fun j hj => (blPSI_lt h.m2 hj).2
  have l1' : ∀ j, BlP b1 T1' j → j < w1.heap.size := fun j hj => (blPIS_lt p1 hj).2
  have lt := blk_lt h.blk
  have sep : ∀ j, BlP b1 T1' j → ¬ BlP b2 T2' j := fun j hj hj2 => by
    rcases p5 j hj with e | e
    · rcases q5 j hj2 with e2 | e2
      · exact h.ap j e e2
      · have := l1 j e; omega
    · rcases q5 j hj2 with e2 | e2
      · have := l2 j e2; omega
      · have := l1' j hj; omega
  have t1' : ¬ BlP b1 T1' t := fun e => by
    rcases p5 t e with e | e
    · exact h.t1 e
    · omega
  have t2' : ¬ BlP b2 T2' t := fun e => by
    rcases q5 t e with e | e
    · exact h.t2 e
    · omega
  have m1 : MapStIS base w2 b1 T1' := mapStIS_fr p1 q4 fun j hj e => by
    rcases p5 j hj with e1 | e1
    · exact h.ap j e1 e
    · have := l2 j e; omega
  have fc : Fr (fun j => j = t) w2 (w2.setCell ⟨t, 1, none⟩ (.int .i64 ((L.length : Int) - 1))) := Fr.setCell (X := fun j => j = t) (Fr.refl _ w2) _ rfl _
  have hb2 : w2.heap[t]? = some (.cells #[.int .i64 most, .int .i64 L.length, .map (some b1), .map (some b2)] 66 (0, 0)) := q4.blk (p4.blk h.blk h.t1) h.t2
  refine ⟨fun j => j = t ∨ BlP b1 T1' j ∨ BlP b2 T2' j, ⟨b1, b2, T1', T2', ⟨h.le, ?_, mapStIS_fr m1 fc fun j hj e => t1' (e ▸ hj), mapStSI_fr q1 fc fun j hj e => t2' (e ▸ hj), p3 h.n1, q3 h.n2, sep, t1', t2', fun a' b' => ?_, fun a' b' => ?_, ?_⟩, fun j => Iff.rfl⟩, fun j hj => ?_, ?_⟩
  · have := blk_set hb2 1 (.int .i64 ((L.length : Int) - 1))
    rw [this, show ((lessLIS L a b).length : Int) = (L.length : Int) - 1 by omega]
    rfl
  · rw [p2, lessMemIS]
    by_cases e : a' = a
    · subst e
      rw [if_pos rfl, delI_memS (lkUpIS h.m1 a'), h.h1]
      simp
    · rw [if_neg e, h.h1]
      simp [e]
  · rw [q2, lessMemIS]
    by_cases e : b' = b
    · subst e
      rw [if_pos rfl, delI_mem (lkUpSI h.m2 b'), h.h2]
      simp
    · rw [if_neg e, h.h2]
      simp [e]
  · exact h.nd.sublist List.filter_sublist
  · rcases hj with rfl | hj | hj
    · exact .inl (.inl rfl)
    · rcases p5 j hj with e | e
      · exact .inl (.inr (.inl e))
      · exact .inr e
    · rcases q5 j hj with e | e
      · exact .inl (.inr (.inr e))
      · exact .inr (by omega)
  · exact ((p4.mono fun j _ e => .inr (.inl e) : Fr (fun j => j = t ∨ BlP b1 T1 j ∨ BlP b2 T2 j) w w1).trans3 q4 fun j _ e => .inr (.inr e)).trans3 fc fun j _ e => .inl e
/-- what Remove does -/
def RemRIS (base t : Nat) (X : Nat → Prop) (most : Int) (L : List ((Int) × (List UInt8))) (a : Int) (b : List UInt8) (w : World) (e : Ending) (w' : World) : Prop :=
  e = .returned (.bool (decide ((a, b) ∈ L))) ∧ ∃ X', (∀ j, X' j → X j ∨ w.heap.size ≤ j) ∧ Fr X w w' ∧ RelAtIS base w' t X' most (lessLIS L a b)
set_option maxRecDepth 100000 in
set_option maxHeartbeats 4000000 in
theorem relRemIS {base : Nat} {w : World} {t : Nat} {X : Nat → Prop} {most : Int} {L : List ((Int) × (List UInt8))} (h : RelAtIS base w t X most L) (hbw : base ≤ w.heap.size) (hL : L.length ≤ 90000) {a : Int} (ha : OkKIS a) {b : List UInt8} (hb : OkKSI b) :
    Calls Tryz.prog 9 #[.pointer (some ⟨t, 0, none⟩), .int .i64 a, .string (bs b)] w (RemRIS base t X most L a b w) := by
  obtain ⟨b1, b2, T1, T2, hR, hX⟩ := h
  have HH := relHasIS hR (by omega) ha b
  have hks := hR.keys
  have H := Lib.hid (And.intro hR hX)
  unfold RemRIS
  by_cases hd : (a, b) ∈ L
  · rw [decide_eq_true hd] at HH ⊢
    have HHas := Lib.hid HH
    have HA := Lib.hid (And.intro hks (And.intro ha hb))
    have HD := Lib.hid hd
    clear HH hR hX hks ha hb hd
    have hone : 1 ≤ L.length := List.length_pos_of_mem HD.out
    go_enter Tryz.func9, Tryz.ntmps9
    go_wp2_with fail
    refine HHas.out.mono ?_
    rintro e w1 ⟨rfl, q, rfl⟩
    obtain ⟨V, hV⟩ : ∃ V, w.drewN q = V := ⟨_, rfl⟩
    rw [hV]
    have hVh : V.heap = w.heap := by rw [← hV]; rfl
    have hVf : Fr (fun _ => False) w V := by rw [← hV]; exact (Fr.refl _ w).drewN q
    have hRV : RelStIS base V t b1 b2 most L T1 T2 := H.out.1.same fun _ _ => by rw [hVh]
    have hbV : base ≤ V.heap.size := by rw [hVh]; exact hbw
    have v2 := blk_cell hRV.blk 2
    obtain ⟨e1, hl1, hx1⟩ := lkHasIS ((hRV.h1 a b).2 HD.out)
    obtain ⟨e2, hl2, hx2⟩ := lkHasSI ((hRV.h2 a b).2 HD.out)
    have HF := Lib.hid (emptyIS hRV.m1 hbV HA.out.2.1 b hl1 (by rw [hx1]; exact Nat.le_trans (HA.out.1.2.2.1 a) (by omega)))
    have HV := Lib.hid (And.intro hRV (And.intro hVh (And.intro hVf (And.intro hbV (And.intro hl2 hx2)))))
    clear hV hVh hVf hRV hbV hl1 hx1 hl2 hx2
    go_wp2_with fail
    refine HF.out.mono ?_
    rintro e w3 ⟨rfl, hP1⟩
    obtain ⟨hRV, hVh, hVf, hbV, hl2, hx2⟩ := HV.out
    obtain ⟨T1', p1, p2, p3, p4, p5, p6⟩ := id hP1
    have hb3 := p4.blk hRV.blk hRV.t1
    have c3 := blk_cell hb3 3
    have m2 : MapStSI base w3 b2 T2 := mapStSI_fr hRV.m2 p4 fun j hj e => hRV.ap j e hj
    have HF2 := Lib.hid (emptySI m2 (Nat.le_trans hbV p4.size) HA.out.2.2 a hl2 (by rw [hx2]; exact Nat.le_trans (HA.out.1.2.2.2 b) (by omega)))
    have HP := Lib.hid (And.intro hP1 (And.intro hb3 m2))
    clear hP1 p1 p2 p3 p4 p5 p6 hb3 m2 hRV hVh hVf hbV v2 hl2 hx2
    go_wp2_with fail
    refine HF2.out.mono ?_
    rintro e w4 ⟨rfl, hP2⟩
    obtain ⟨hRV, hVh, hVf, hbV, hl2, hx2⟩ := HV.out
    obtain ⟨hP1, hb3, m2⟩ := HP.out
    obtain ⟨T2', q1', q2, q3, q4, q5, q6⟩ := id hP2
    have hb4 := q4.blk hb3 hRV.t2
    have c1 := blk_cell hb4 1
    have f1 := blk_free hb4 1
    obtain ⟨X', hat, hx', hfr⟩ := rem_stIS hRV HD.out hP1 hP2
    have hl2 : (L.length : Int) ≤ 100000 := by omega
    have hl3 : 1 ≤ (L.length : Int) := by omega
    have HE : Hid (RemRIS base t X most L a b w (.returned (.bool true)) (w4.setCell ⟨t, 1, none⟩ (.int .i64 ((L.length : Int) - 1)))) := by
      have hX := H.out.2
      refine ⟨by rw [decide_eq_true HD.out], X', fun j hj => ?_, ?_, hat⟩
      · rcases hx' j hj with e | e
        · exact .inl ((hX j).2 e)
        · exact .inr (by rw [← hVh]; exact e)
      · exact (hVf.mono fun _ _ e => e.elim : Fr X w V).trans3 hfr fun j _ e => (hX j).2 e
    clear hP1 hb3 m2 hP2 q1' q2 q3 q4 q5 q6 hb4 hat hx' hfr hRV hVh hVf hbV hx2
    go_wp2_with fail
    go_ret
    exact ⟨rfl, HE.out.2⟩
  · rw [decide_eq_false hd] at HH ⊢
    have HHas := Lib.hid HH
    have HD := Lib.hid hd
    clear HH hR hX hks ha hb hd
    go_enter Tryz.func9, Tryz.ntmps9
    go_wp2_with fail
    refine HHas.out.mono ?_
    rintro e w1 ⟨rfl, q, rfl⟩
    go_wp2_with fail
    go_ret
    refine ⟨rfl, X, fun j hj => .inl hj, (Fr.refl X w).drewN q, ?_⟩
    rw [lessNotIS HD.out]
    exact ⟨b1, b2, T1, T2, H.out.1.same fun _ _ => rfl, H.out.2⟩
/-- a nil relation -/
theorem rightsNilIS (a : Int) (w : World) : Calls Tryz.prog 36 #[.pointer none, .int .i64 a] w fun e w' => e = .returned (.pointer none) ∧ w' = w := by
  go_enter Tryz.func36, Tryz.ntmps36
  go_wp2_with fail
  go_ret
  exact ⟨rfl, rfl⟩
theorem relHasNilIS (a : Int) (b : List UInt8) (w : World) : Calls Tryz.prog 17 #[.pointer none, .int .i64 a, .string (bs b)] w fun e w' => e = .returned (.bool false) ∧ w' = w := by
  have HR := Lib.hid (rightsNilIS a w)
  have HS := Lib.hid (set_has_nilS b w)
  go_enter Tryz.func17, Tryz.ntmps17
  go_wp2_with fail
  refine HR.out.mono ?_
  rintro e w1 ⟨rfl, rfl⟩
  go_wp2_with fail
  refine HS.out.mono ?_
  rintro e w2 ⟨rfl, rfl⟩
  go_wp2_with fail
  go_ret
  exact ⟨rfl, rfl⟩
theorem relCountNilIS (a : Int) (w : World) : Calls Tryz.prog 19 #[.pointer none, .int .i64 a] w fun e w' => e = .returned (.int .i64 0) ∧ w' = w := by
  have HR := Lib.hid (rightsNilIS a w)
  have HS := Lib.hid (set_len_nilS w)
  go_enter Tryz.func19, Tryz.ntmps19
  go_wp2_with fail
  refine HR.out.mono ?_
  rintro e w1 ⟨rfl, rfl⟩
  go_wp2_with fail
  refine HS.out.mono ?_
  rintro e w2 ⟨rfl, rfl⟩
  go_wp2_with fail
  go_ret
  exact ⟨rfl, rfl⟩
theorem relLenNilIS (w : World) : Calls Tryz.prog 16 #[.pointer none] w fun e w' => e = .returned (.int .i64 0) ∧ w' = w := by
  go_enter Tryz.func16, Tryz.ntmps16
  go_wp2_with fail
  go_ret
  exact ⟨rfl, rfl⟩
theorem relAddNilIS (a : Int) (b : List UInt8) (w : World) : Calls Tryz.prog 12 #[.pointer none, .int .i64 a, .string (bs b)] w fun e w' => e = .returned (.int .i64 1) ∧ w' = w := by
  go_enter Tryz.func12, Tryz.ntmps12
  go_wp2_with fail
  go_ret
  exact ⟨rfl, rfl⟩
theorem relRemNilIS (a : Int) (b : List UInt8) (w : World) : Calls Tryz.prog 9 #[.pointer none, .int .i64 a, .string (bs b)] w fun e w' => e = .returned (.bool false) ∧ w' = w := by
  have HR := Lib.hid (relHasNilIS a b w)
  go_enter Tryz.func9, Tryz.ntmps9
  go_wp2_with fail
  refine HR.out.mono ?_
  rintro e w1 ⟨rfl, rfl⟩
  go_wp2_with fail
  go_ret
  exact ⟨rfl, rfl⟩
theorem relOfNilIS (a : Int) (w : World) : Calls Tryz.prog 32 #[.pointer none, .int .i64 a] w (AllPS [] w) := by
  have HR := Lib.hid (rightsNilIS a w)
  have HA := Lib.hid (set_all_nilS w)
  go_enter Tryz.func32, Tryz.ntmps32
  go_wp2_with fail
  refine HR.out.mono ?_
  rintro e w1 ⟨rfl, rfl⟩
  go_wp2_with fail
  refine HA.out.mono ?_
  rintro e w2 ⟨⟨F, rfl, h4⟩, h5⟩
  have H2 := Lib.hid (And.intro h4 h5)
  clear h4 h5
  go_wp2_with fail
  go_ret
  exact ⟨⟨_, rfl, H2.out.1⟩, H2.out.2⟩
theorem relByNilIS (b : List UInt8) (w : World) : Calls Tryz.prog 35 #[.pointer none, .string (bs b)] w (AllP [] w) := by
  have HA := Lib.hid (set_all_nil w)
  go_enter Tryz.func35, Tryz.ntmps35
  go_wp2_with fail
  refine HA.out.mono ?_
  rintro e w2 ⟨⟨F, rfl, h4⟩, h5⟩
  have H2 := Lib.hid (And.intro h4 h5)
  clear h4 h5
  go_wp2_with fail
  go_ret
  exact ⟨⟨_, rfl, H2.out.1⟩, H2.out.2⟩
end Go.Proofs.YteiiaocohpbanaaGreat
end
section
/- Layer 11: a relation of ints and strings: in words of its pairs alone. -/
namespace Go.Proofs.YteiiaocohpbanaaGreat
set_option linter.unusedVariables false
set_option linter.unusedSimpArgs false
open Go Go.RowKit Go.Maps Go.Lib

theorem AddRIS.ok {base t : Nat} {X : Nat → Prop} {most : Int} {L : List ((Int) × (List UInt8))} {a : Int} {b : List UInt8} {w : World} {e : Ending} {w' : World} (h : AddRIS base t X most L a b w e w') (hn : (a, b) ∉ L) (xs : List (List UInt8)) (h1 : xs.Pairwise (· < ·)) (h2 : ∀ x, x ∈ xs ↔ (a, x) ∈ L) (hl : (xs.length : Int) < most) :
    e = .returned (.int .i64 0) ∧ ∃ X', (∀ j, X' j → X j ∨ w.heap.size ≤ j) ∧ Fr X w w' ∧ RelAtIS base w' t X' most (L ++ [(a, b)]) := by
  obtain ⟨X', p1, p2, ⟨q1, _⟩ | ⟨_, q2, _⟩ | ⟨_, _, q3, q4⟩⟩ := h
  · exact absurd q1 hn
  · have := q2 xs h1 h2; omega
  · exact ⟨q3, X', p1, p2, q4⟩
/-- whatever Add does -/
theorem AddRIS.any {base t : Nat} {X : Nat → Prop} {most : Int} {L : List ((Int) × (List UInt8))} {a : Int} {b : List UInt8} {w : World} {e : Ending} {w' : World} (h : AddRIS base t X most L a b w e w') :
    ∃ X' c L', e = .returned (.int .i64 c) ∧ (∀ j, X' j → X j ∨ w.heap.size ≤ j) ∧ Fr X w w' ∧ RelAtIS base w' t X' most L' ∧ (L' = L ∧ (c = 6 ∧ (a, b) ∈ L ∨ c = 7 ∧ (a, b) ∉ L ∧ (∀ xs : List (List UInt8), xs.Pairwise (· < ·) → (∀ x, x ∈ xs ↔ (a, x) ∈ L) → most ≤ xs.length)) ∨
      L' = L ++ [(a, b)] ∧ c = 0 ∧ (a, b) ∉ L ∧ (∀ xs : List (List UInt8), xs.Pairwise (· < ·) → (∀ x, x ∈ xs ↔ (a, x) ∈ L) → (xs.length : Int) < most)) := by
  obtain ⟨X', p1, p2, ⟨q1, q3, q4⟩ | ⟨q1, q2, q3, q4⟩ | ⟨q1, q2, q3, q4⟩⟩ := h
  · exact ⟨X', 6, L, q3, p1, p2, q4, .inl ⟨rfl, .inl ⟨rfl, q1⟩⟩⟩
  · exact ⟨X', 7, L, q3, p1, p2, q4, .inl ⟨rfl, .inr ⟨rfl, q1, q2⟩⟩⟩
  · exact ⟨X', 0, _, q3, p1, p2, q4, .inr ⟨rfl, rfl, q1, q2⟩⟩
section
variable {base : Nat} {w : World} {t : Nat} {X : Nat → Prop} {most : Int} {L : List ((Int) × (List UInt8))}
theorem ofAtIS (h : RelAtIS base w t X most L) (hL : L.length ≤ 100000) {a : Int} (ha : OkKIS a) : ∃ xs : List (List UInt8), xs.Pairwise (· < ·) ∧ (∀ b, b ∈ xs ↔ (a, b) ∈ L) ∧ xs.length ≤ L.length ∧ ∀ V, Fr (fun _ => False) w V → Calls Tryz.prog 32 #[.pointer (some ⟨t, 0, none⟩), .int .i64 a] V (AllPS xs V) := by
  obtain ⟨b1, b2, T1, T2, h1, h2⟩ := h
  exact ⟨lk T1 a, lkUpIS h1.m1 a, h1.h1 a, h1.keys.2.2.1 a, fun V hV => relOfIS (h1.same fun j hj => hV.block j (h1.lt hj).2 fun e => e : RelStIS base V t b1 b2 most L T1 T2) hL ha⟩
theorem byAtIS (h : RelAtIS base w t X most L) (hL : L.length ≤ 100000) {b : List UInt8} (hb : OkKSI b) : ∃ xs : List (Int), xs.Pairwise (· < ·) ∧ (∀ a, a ∈ xs ↔ (a, b) ∈ L) ∧ xs.length ≤ L.length ∧ ∀ V, Fr (fun _ => False) w V → Calls Tryz.prog 35 #[.pointer (some ⟨t, 0, none⟩), .string (bs b)] V (AllP xs V) := by
  obtain ⟨b1, b2, T1, T2, h1, h2⟩ := h
  exact ⟨lk T2 b, lkUpSI h1.m2 b, fun a => h1.h2 a b, h1.keys.2.2.2 b, fun V hV => relByIS (h1.same fun j hj => hV.block j (h1.lt hj).2 fun e => e : RelStIS base V t b1 b2 most L T1 T2) hL hb⟩
theorem hasAtIS (h : RelAtIS base w t X most L) (hL : L.length ≤ 100000) {a : Int} (ha : OkKIS a) (b : List UInt8) : Calls Tryz.prog 17 #[.pointer (some ⟨t, 0, none⟩), .int .i64 a, .string (bs b)] w fun e w' => e = .returned (.bool (decide ((a, b) ∈ L))) ∧ ∃ q, w' = w.drewN q := by
  obtain ⟨b1, b2, T1, T2, h1, h2⟩ := h
  exact relHasIS h1 hL ha b
theorem countAtIS (h : RelAtIS base w t X most L) {a : Int} (ha : OkKIS a) {xs : List (List UInt8)} (hx : xs.Pairwise (· < ·)) (hm : ∀ b, b ∈ xs ↔ (a, b) ∈ L) : Calls Tryz.prog 19 #[.pointer (some ⟨t, 0, none⟩), .int .i64 a] w fun e w' => e = .returned (.int .i64 xs.length) ∧ w' = w := by
  obtain ⟨b1, b2, T1, T2, h1, h2⟩ := h
  have e := up_extS hx (lkUpIS h1.m1 a) fun b => (hm b).trans (h1.h1 a b).symm
  rw [e]
  exact relCountIS h1 ha
theorem lenAtIS (h : RelAtIS base w t X most L) : Calls Tryz.prog 16 #[.pointer (some ⟨t, 0, none⟩)] w fun e w' => e = .returned (.int .i64 L.length) ∧ w' = w := by
  obtain ⟨b1, b2, T1, T2, h1, h2⟩ := h
  exact relLenIS h1
theorem RelAtIS.below {w' : World} (h : RelAtIS base w t X most L) (hb : Below w.heap.size w w') : RelAtIS base w' t X most L := h.fr (Fr.of_below (X := fun _ => False) hb) fun _ _ e => e
end
end Go.Proofs.YteiiaocohpbanaaGreat
end
section
/- Rows of numbers of the call's own: slices.Values as a function that tells, in words of what is owned. -/
namespace Go.Proofs.YteiiaocohpbanaaGreat
set_option linter.unusedVariables false
set_option linter.unusedSimpArgs false
open Go Go.RowKit Go.Lib Go.Sort Go.Shelf
attribute [local go_sem] Oper.semAt_some

theorem reads_ownI {base : Nat} {w : World} {A : Option Addr} {n c : Nat} {xs : List Int} (h : OwnI base w (.slice A n c) xs) : ReadsI w A xs := fun h0 => by
  rcases h.2 with ⟨h1, h2⟩ | ⟨g, cap, cur, h1, h3, h4, h5, _, h6, h7⟩
  · omega
  · injection h1 with q1 q2 q3
    subst q1
    rw [Nat.mul_one] at h7
    refine ⟨g, 0, rfl, blk_lt h4, fun j hj => ?_⟩
    rw [Nat.zero_add, blk_cell h4 j, own_get (base := 0) (w := w) (cap := 0) h4 h7 j hj]
set_option maxRecDepth 100000 in
set_option maxHeartbeats 4000000 in
theorem values_seqI (base B : Nat) (v : Value) (xs : List Int) (w : World) (hxs : xs.length ≤ 1000000) (hb : w.heap[B]? = some (.cells #[v] 43 (0, 0))) (hr : OwnI base w v xs) :
    SeqF Tryz.prog 69 #[.pointer (some ⟨B, 0, none⟩)] encI (rowY B v) xs w := fun l J Jx X V hs hYl hX hJ hJx hY h0 => by
  have hbV := (hs B (.inl rfl)).trans hb
  have hrV : OwnI base V v xs := own_kept hr fun g hg => hs g (.inr hg)
  obtain ⟨A, c, rfl⟩ := row_slice hr
  have c0 : V.cell? ⟨B, 0, none⟩ = some (.slice A xs.length c) := (blk_cell hbV 0).trans rfl
  have HR := Lib.hid (reads_ownI hrV)
  have HO := Lib.hid hrV
  have HY := Lib.hid hY
  have HX := Lib.hid hX
  have h00 : Hid (∃ X1, GrowX X X1 V V ∧ Fr X V V ∧ J [] X1 V) := ⟨X, GrowX.refl fun k hk => (hX k hk).1, Fr.refl _ _, h0⟩
  clear hb hr hs hrV hbV hY hX h0 hJ hJx hYl
  refine (callsIn_wide (n := 20)).1 ?_
  refine callsIn_of_wp Tryz.func69 rfl trivial ?_ rfl
  simp only [Tryz.ntmps69, List.size_toArray, List.length_cons, List.length_nil, Nat.reduceAdd, Nat.reduceSub, Array.replicate_succ, Array.replicate_zero, List.push_toArray, List.append_toArray, List.nil_append, List.cons_append]
  gi_wp2
  gi_loopw [7] (fun c1 wr => ∃ k : Nat, c1 = .int .i64 k ∧ k ≤ xs.length ∧ Hid (∃ X1, GrowX X X1 V wr ∧ Fr X V wr ∧ J (xs.take k) X1 wr)) (fun c1 _ => xs.length - (Go.RowKit.intOf c1).toNat)
  case atStart => exact ⟨0, rfl, Nat.zero_le _, h00⟩
  case round =>
    obtain ⟨k, rfl, hk, HJ⟩ := hrel
    clear h00
    obtain ⟨X1, hg1, hf1, hj1⟩ := HJ.out
    by_cases hlt : k < xs.length
    · obtain ⟨g, o, rfl, hg, hcell⟩ := HR.out (by omega)
      obtain ⟨x, hx⟩ : ∃ x, xs[k] = x := ⟨_, rfl⟩
      have hgY : rowY B (.slice (some ⟨g, o, none⟩) xs.length c) g := by
        rcases HO.out.2 with ⟨e, _⟩ | ⟨g2, cap, cur, e, _⟩
        · cases e
        · cases e; exact .inr rfl
      have e0 : wr.cell? ⟨g, o + k, none⟩ = some (.int .i64 x) := by
        rw [hf1.cell (p := ⟨g, o + k, none⟩) hg (fun e => (HX.out g e).2 hgY), hcell k hlt, hx]
      have hsp : xs.take k ++ x :: xs.drop (k + 1) = xs := by rw [← hx, ← List.drop_eq_getElem_cons hlt]; exact List.take_append_drop k xs
      have htk : xs.take (k + 1) = xs.take k ++ [x] := by rw [List.take_succ_eq_append_getElem hlt, hx]
      have hyy := HY.out (xs.take k) x (xs.drop (k + 1)) X1 wr hsp hg1 hj1 hf1
      obtain ⟨fn, tmps, assign, body, hy, hR⟩ := hyy
      dsimp only [encI] at hy
      have HT := Lib.hid (And.intro htk (And.intro hsp (And.intro hg1 hf1)))
      clear hx htk hsp hg hcell hg1 hf1 hj1 hgY
      gi_wp2_with fail
      refine (round_wide (.inl rfl) hR).mono ?_
      rintro e W3 ⟨X2, g2, f2, (⟨rfl, hJ3⟩ | ⟨rfl, hJx3⟩)⟩
      · obtain ⟨htk, hsp, hg1, hf1⟩ := HT.out
        have hN : Hid (∃ X1, GrowX X X1 V W3 ∧ Fr X V W3 ∧ J (xs.take (k + 1)) X1 W3) := ⟨X2, hg1.trans g2 hf1.size, hf1.trans3 f2 fun k hk e => (hg1 k e).2 hk, by rw [htk]; exact hJ3⟩
        clear htk hsp hg1 hf1 g2 f2 hJ3 hR hy
        gi_wp2_with fail
        go_roundw
        case rel => exact ⟨k + 1, by go_num, by omega, hN⟩
        case measure => simp [Go.RowKit.intOf]; omega
      · clear hR hy
        gi_wp2_with fail
        refine bodyPost_ret (results_none rfl _ _ _) rfl ?_
        obtain ⟨htk, hsp, hg1, hf1⟩ := HT.out
        exact ⟨⟨_, rfl⟩, X2, hg1.trans g2 hf1.size, hf1.trans3 f2 fun k hk e => (hg1 k e).2 hk, .inr ⟨_, xs.drop (k + 1), by simpa using hsp, hJx3⟩⟩
    · obtain rfl : k = xs.length := by omega
      rw [List.take_length] at hj1
      have HQ := Lib.hid (And.intro hg1 (And.intro hf1 hj1))
      clear hg1 hf1 hj1
      gi_wp2_with fail
      go_end0
      obtain ⟨hg1, hf1, hj1⟩ := HQ.out
      exact ⟨⟨_, rfl⟩, X1, hg1, hf1, .inl hj1⟩
theorem tellsI_tale {base : Nat} {w : World} {F : Value} {xs : List Int} (h : TaleAt base w F xs) (hl : xs.length ≤ 1000000) : ∃ Y, (∀ b, Y b → base ≤ b) ∧ TellsF Tryz.prog encI w F Y xs := by
  obtain ⟨B, v, h1, rfl, h3, h4, h5⟩ := h
  refine ⟨rowY B v, fun b hb => ?_, _, _, rfl, values_seqI base B v xs w hl h3 h5, fun b hb => ?_, enters_of Tryz.func69 (by kernel_rfl) rfl⟩
  · rcases hb with rfl | hb
    · exact h1
    · exact (h5.lt b hb).1
  · rcases hb with rfl | hb
    · exact blk_lt h3
    · exact (h5.lt b hb).2
end Go.Proofs.YteiiaocohpbanaaGreat
end
section
/- Layer 11: the law's lefts. -/
namespace Go.Proofs.YteiiaocohpbanaaGreat
set_option linter.unusedVariables false
set_option linter.unusedSimpArgs false
open Go Go.RowKit Go.Lib Go.Sort Go.Shelf
attribute [local go_sem] Oper.semAt_some

/-- a box with a row of numbers: its blocks are X -/
def Box11L (S base : Nat) (pre : List Int) (X : Nat → Prop) (W : World) : Prop := ∃ v, W.heap[S]? = some (.cells #[v] 43 (0, 0)) ∧ OwnI base W v pre ∧ S < base ∧ ∀ k, X k ↔ (k = S ∨ v.ownBlock = some k)
theorem box11L_stays (S base : Nat) : Stays (Box11L S base) := fun pre X V V' ⟨v, h1, h2, h3, h4⟩ hl hf =>
  ⟨v, hf.blk h1 (fun e => e ((h4 S).2 (.inl rfl))), own_kept h2 fun g hg => hf.block g (h2.lt g hg).2 fun e => e ((h4 g).2 (.inr hg)), h3, h4⟩
/-- what was told: a row of the call's own, and that it was all -/
def Told11L (xs : List Int) (w : World) (e : Ending) (w' : World) : Prop := (∃ v, e = .returned (.tuple #[v, .bool true]) ∧ OwnI w.heap.size w' v xs) ∧ Below w.heap.size w w'
set_option maxRecDepth 100000 in
set_option maxHeartbeats 4000000 in
theorem lefts11 {w : World} {po : Option Addr} {a : List UInt8} {xs : List Int} (hOf : ∀ V, Fr (fun _ => False) w V → Calls Tryz.prog 35 #[.pointer po, .string (bs a)] V (AllP xs V)) (hl : xs.length ≤ 1000000) (m : Nat) (hm : xs.length ≤ m) (hm2 : m ≤ 1000000) : Calls Tryz.prog 15 #[.pointer po, .string (bs a), .int .i64 m] w (Told11L xs w) := by
  obtain ⟨i0, hi, hz0, hz1, hz2⟩ := info_parts Tryz.infoI
  have HOf := Lib.hid hOf
  clear hOf
  refine (callsIn_wide (n := 20)).1 ?_
  refine callsIn_of_wp_marks Tryz.func15 rfl trivial ?_ rfl
  simp only [Tryz.ntmps15, List.size_toArray, List.length_cons, List.length_nil, Nat.reduceAdd, Nat.reduceSub, Array.replicate_succ, Array.replicate_zero, List.push_toArray, List.append_toArray, List.nil_append, List.cons_append]
  gi_wp2_with fail
  obtain ⟨w1, hw1⟩ : ∃ w1, (((w.alloc (Obj.cells #[Value.int IntKind.i64 m] 3)).alloc (Obj.cells #[Value.slice none 0 0] 43)).alloc (Obj.cells #[Value.bool false] 4)).alloc (Obj.cells #[Value.slice none 0 0] 43) = w1 := ⟨_, rfl⟩
  rw [hw1]
  have f0 : Fr (fun _ => False) w w1 := by rw [← hw1]; exact ((((Fr.refl _ w).alloc _).alloc _).alloc _).alloc _
  have HO0 := Lib.hid (HOf.out w1 f0)
  have HF0 := Lib.hid (And.intro hw1 f0)
  clear hw1 f0
  refine ⟨trivial, (calls_wide (.inl rfl) HO0.out).mono ?_⟩
  rintro e w2 ⟨⟨F, rfl, hT⟩, hb20⟩
  obtain ⟨Y, hYb, gf, lb, rfl, hseq, hY, heg⟩ := tellsI_tale (base := w1.heap.size) hT (by omega)
  have hnil : ∀ W, (binOp BinOp.eql 59 (.func (.func gf) #[] lb) Value.nilFunc).run Tryz.prog W = .ok (.bool false) W := fun W => by rfl
  have H20 := Lib.hid (And.intro hb20 (And.intro hYb (And.intro hseq (And.intro hY heg))))
  clear hb20 hYb hseq hY heg hT
  gi_wp2_with (simp only [hnil])
  obtain ⟨hw1, f0⟩ := HF0.out
  obtain ⟨hb20, hYb, hseq, hY, heg⟩ := H20.out
  have hfr20 : Fr (fun _ => False) w1 w2 := Fr.of_below hb20
  have z1 : w1.heap.size = w.heap.size + 4 := by rw [← hw1]; simp
  have f1 : Fr (fun _ => False) w w1 := by rw [← hw1]; exact ((((Fr.refl _ w).alloc _).alloc _).alloc _).alloc _
  have hb0 : w1.heap[w.heap.size]? = some (.cells #[.int .i64 m] 3 (0, 0)) := by rw [← hw1]; exact blk_alloc (blk_alloc (blk_alloc (heap_alloc_new w _) _) _) _
  have hb1 : w1.heap[w.heap.size + 1]? = some (.cells #[.slice none 0 0] 43 (0, 0)) := by rw [← hw1]; exact blk_alloc (blk_alloc (heap_alloc2_new w _ _) _) _
  have hb2 : w1.heap[w.heap.size + 2]? = some (.cells #[.bool false] 4 (0, 0)) := by rw [← hw1]; refine blk_alloc ?_ _; have := heap_alloc2_new (w.alloc (Obj.cells #[Value.int IntKind.i64 m] 3)) (Obj.cells #[Value.slice none 0 0] 43) (Obj.cells #[Value.bool false] 4); rwa [World.size_alloc] at this
  have hb3 : w1.heap[w.heap.size + 3]? = some (.cells #[.slice none 0 0] 43 (0, 0)) := by
    rw [← hw1]
    have := heap_alloc2_new ((w.alloc (Obj.cells #[Value.int IntKind.i64 m] 3)).alloc (Obj.cells #[Value.slice none 0 0] 43)) (Obj.cells #[Value.bool false] 4) (Obj.cells #[Value.slice none 0 0] 43)
    rwa [World.size_alloc, World.size_alloc] at this
  have z2 : w1.heap.size ≤ w2.heap.size := hb20.size
  replace f1 := f1.trans hfr20
  replace hb0 := hfr20.blk hb0 fun e => e
  replace hb1 := hfr20.blk hb1 fun e => e
  replace hb2 := hfr20.blk hb2 fun e => e
  replace hb3 := hfr20.blk hb3 fun e => e
  clear hw1 hfr20 hb20 f0
  have H := Lib.hid (And.intro f1 (And.intro hb0 (And.intro hb1 (And.intro hb2 (And.intro z1 z2)))))
  refine wpIn_rangeF (X := fun k => k = w.heap.size + 3) (Y := Y) (xs := xs) (encs := encI) (gf := gf) (lb := lb) (Box11L (w.heap.size + 3) w1.heap.size) (fun _ _ _ _ => False)
    rfl hseq (fun k hk => ⟨by omega, fun e => by have := hYb k e; omega⟩) hY (by omega) heg (fun _ => rfl)
    (box11L_stays _ _) (fun c s X1 V1 V2 h => h.elim) ⟨_, hb3, own_nil _ _, by omega, fun k => by simp [Value.ownBlock]⟩ ?round ?done (fun _ _ _ _ _ _ _ _ _ _ _ h => h.elim)
  case round =>
    rintro l pre x r X1 V K rb hl2 hpx hI hG hxl hF hlV hK
    dsimp only [encI]
    have HK := Lib.hid hK
    have HV := Lib.hid (And.intro hpx (And.intro hI (And.intro hG (And.intro hxl (And.intro hF (And.intro hlV hl2))))))
    clear hK hpx hI hG hxl hF hlV hl2 hYb hseq hY heg f1 hb0 hb1 hb2 hb3 z1 z2
    gi_wp2_with fail
    refine HK.out _ _ (Fr.refl _ _) fun Vb hfb hzb hsb hrb => ?_
    clear HK K
    obtain ⟨hpx, ⟨vb, k3, o3, hSl, hX1⟩, hG, hxl, hF, hlV, hl2⟩ := HV.out
    obtain ⟨f1, hb0, hb1, hb2, z1, z2⟩ := H.out
    have hpl : pre.length + 1 ≤ xs.length := by
      have := congrArg List.length hpx
      simp at this; omega
    have c0 := blk_cell (hfb.blk (hF.blk hb0 (by omega)) (by omega)) 0
    have k3b := hfb.blk k3 (by omega : ¬ w.heap.size + 3 = l)
    have o3b : OwnI w1.heap.size Vb vb pre := own_kept o3 fun g hg => hfb.block g (o3.lt g hg).2 fun e => hxl ((hX1 l).2 (.inr (e ▸ hg)))
    have c3 := blk_cell k3b 0
    have hzs : Vb.heap.size = V.heap.size := hzb
    have hbz : w1.heap.size ≤ Vb.heap.size := by omega
    have hor : Vb.ownsRow w1.heap.size 3 1 vb pre.length (pre.map (Value.int .i64)) := o3b
    have HO := Lib.hid hor
    have HE := Lib.hid (And.intro hX1 (And.intro hG (And.intro hxl (And.intro hfb (And.intro hrb (And.intro k3b (And.intro o3b (And.intro hzs (And.intro hlV (And.intro hSl hl2))))))))))
    clear hpx k3 o3 hSl hX1 hG hxl hF hlV hl2 f1 hb0 hb1 hb2 z1 z2 k3b o3b hor hfb hzb hsb hrb hzs
    have hlen : ∀ W, (Builtin.len_ #[43] 3 #[vb]).run Tryz.prog W = .ok (.int .i64 pre.length) W := fun W => by obtain ⟨A, cp, rfl⟩ := row_slice HO.out; rfl
    gi_wp2_with (first | (gi_at_builtin; refine Hid.out ?_) | simp only [hlen])
    refine Lib.hid ?_
    refine wpListIn_one_t rfl _ _ 43 rfl w1.heap.size 3 i0 _ 1 8 Tryz.underlying43 hi hz0 hz1 hz2 rfl (by decide) _ _ _ rfl HO.out #[.int .i64 x] _ rfl rfl rfl (by intro u hu; simp at hu; subst hu; rfl) (by omega) (by decide) hbz ?_
    intro v1 W2 hown1 hfr1 htie
    obtain ⟨A1, c1', rfl⟩ := row_slice hown1
    have hn3 : ∀ k, vb.ownBlock = some k → k ≠ w.heap.size + 3 := fun k hk e => by have := (HO.out.lt k hk).1; have := HE.out.2.2.2.2.2.2.2.2.2.1; omega
    have e1 : W2.heap[w.heap.size + 3]? = some (.cells #[vb] 43 (0, 0)) := hfr1.blk HE.out.2.2.2.2.2.1 fun e => hn3 _ e rfl
    have g1 := blk_cell e1 0
    have g2 := blk_free e1 0
    have HN := Lib.hid hn3
    clear hn3
    gi_wp2_with fail
    obtain ⟨hX1, hG, hxl, hfb, hrb, k3b, o3b, hzs, hlV, hSl, hl2⟩ := HE.out
    have hn3 := HN.out
    have z2 := H.out.2.2.2.2.2
    have z1 := H.out.2.2.2.2.1
    have hown2 : OwnI w1.heap.size W2 (.slice A1 (pre.length + 1) c1') (pre ++ [x]) := by
      unfold OwnI; rw [List.length_append, List.map_append]; exact hown1
    have hnx : (Value.slice A1 (pre.length + 1) c1').ownBlock ≠ some (w.heap.size + 3) := fun e => by have := (hown2.lt _ e).1; omega
    have hfr : Fr (fun k => k = l ∨ X1 k) V (W2.setCell ⟨w.heap.size + 3, 0, none⟩ (.slice A1 (pre.length + 1) c1')) :=
      (((hfb.mono (Y := fun k => k = l ∨ X1 k) fun k _ e => .inl e).trans3 hfr1 fun k _ e => .inr ((hX1 k).2 (.inr e)))).setCell _ (.inr ((hX1 _).2 (.inl rfl))) _
    refine ⟨fun k => k = w.heap.size + 3 ∨ (Value.slice A1 (pre.length + 1) c1').ownBlock = some k, fun k hk => ?_, hfr, ?_, .slice A1 (pre.length + 1) c1', blk_set e1 0 _, ?_, hSl, fun k => Iff.rfl⟩
    · have hz2 := hfr1.size
      have hsz : (W2.setCell ⟨w.heap.size + 3, 0, none⟩ (.slice A1 (pre.length + 1) c1')).heap.size = W2.heap.size := by simp
      rw [hsz]
      rcases hk with rfl | hk
      · exact ⟨blk_lt e1, fun _ => (hX1 _).2 (.inl rfl)⟩
      · refine ⟨(hown2.lt k hk).2, fun hlt => ?_⟩
        rcases htie k hk with e | e
        · exact (hX1 k).2 (.inr e)
        · omega
    · have hl3 : ¬ vb.ownBlock = some l := fun e => hxl ((hX1 l).2 (.inr e))
      exact blk_other (hfr1.blk hrb hl3) _ (by simp; omega) _
    · exact own_kept hown2 fun g hg => heap_setCell_other W2 _ g _ fun e => by simp at e; exact hnx (e ▸ hg)
  case done =>
    rintro D X2 V hD hxD hG hF ⟨v, k3, o3, hSl, hX2⟩ hdef
    obtain ⟨A, cp, rfl⟩ := row_slice o3
    have k1 := hF.blk hb1 (by omega)
    have k2 := hF.blk hb2 (by omega)
    have c1 := blk_cell k1 0
    have f1' := blk_free k1 0
    have c2 := blk_cell k2 0
    have f2 := blk_free k2 0
    have c3 := blk_cell k3 0
    have HE := Lib.hid (And.intro k1 (And.intro k2 (And.intro k3 (And.intro o3 (And.intro hF (And.intro hdef (And.intro hxD (And.intro hX2 (And.intro hSl hD)))))))))
    clear k1 k2 k3 o3 hF hdef hxD hX2 hSl hD hG hYb hseq hY heg f1 hb0 hb1 hb2 hb3 z1 z2
    gi_wp2_with fail
    obtain ⟨k1, k2, k3, o3, hF, hdef, hxD, hX2, hSl, hD⟩ := HE.out
    obtain ⟨f1, hb0, hb1, hb2, z1, z2⟩ := H.out
    obtain ⟨W3, hW3⟩ : ∃ W3, (V.setCell ⟨w.heap.size + 1, 0, none⟩ (Value.slice A xs.length cp)).setCell ⟨w.heap.size + 1 + 1, 0, none⟩ (Value.bool true) = W3 := ⟨_, rfl⟩
    rw [hW3]
    have a1 : W3.heap[w.heap.size + 1]? = some (.cells #[.slice A xs.length cp] 43 (0, 0)) := by
      rw [← hW3]
      exact blk_other (blk_set k1 0 _) _ (by simp) _
    have a2 : W3.heap[w.heap.size + 2]? = some (.cells #[.bool true] 4 (0, 0)) := by
      rw [← hW3]
      exact blk_set (blk_other k2 _ (by simp) _) 0 _
    have a3 : W3.heap[D]? = some (.deferred (some [])) := by
      rw [← hW3]
      exact blk_other (blk_other hdef _ (by simp; omega) _) _ (by simp; omega) _
    have a4 : OwnI w1.heap.size W3 (.slice A xs.length cp) xs := own_kept o3 fun g hg => by
      have := (o3.lt g hg).1
      rw [← hW3]
      exact (heap_setCell_other _ _ g _ (by simp; omega)).trans (heap_setCell_other _ _ g _ (by simp; omega))
    have a5 : Below w.heap.size w W3 := by
      have h5 : Below w.heap.size w V := (f1.mono (Y := fun k => k = w.heap.size + 3) (fun _ _ h => h.elim)).trans3 hF (fun k _ e => e) |>.below (Nat.le_refl _) fun k hk e => by omega
      rw [← hW3]
      exact (h5.setCell (by simp) _).setCell (by simp; omega) _
    refine leaves_one D _ a3 fun w' hf => ?_
    have e1 := hf.blk a1 (by omega)
    have e2 := hf.blk a2 (by omega)
    refine ⟨_, results_box2 rfl _ _ (w.heap.size + 1) (w.heap.size + 2) _ _ _ _ rfl (blk_cell e1 0) rfl (blk_cell e2 0) Tryz.underlying43 rfl Tryz.underlying4 rfl, ⟨.slice A xs.length cp, rfl, ?_⟩, a5.trans (hf.below a5.size fun k _ e => by omega)⟩
    exact row_baseP (own_kept a4 fun g hg => hf.block g (a4.lt g hg).2 fun e => hxD ((hX2 D).2 (.inr (e ▸ hg)))) (by omega)
end Go.Proofs.YteiiaocohpbanaaGreat
end
section
/- Layer 10: Union. -/
namespace Go.Proofs.YteiiaocohpbanaaGreat
set_option linter.unusedVariables false
set_option linter.unusedSimpArgs false
open Go Go.RowKit Go.Lib Go.Sort Go.Shelf

theorem Tryz.infoFn : (Tryz.prog.info? 59).map (fun i => (i.zero, i.size, i.bytes)) = some (some .nilFunc, 1, 8) := by kernel_rfl
/-- a row of functions -/
def OwnF (base : Nat) (W : World) (v : Value) (Fs : List Value) : Prop := W.ownsRow base 59 1 v Fs.length Fs
theorem own_type {W : World} {base : Nat} {e : TypeId} {size : Nat} {v : Value} {n : Nat} {xs : List Value} (hown : W.ownsRow base e size v n xs) (k : Nat) (hk : v.ownBlock = some k) : ∃ cur, W.heap[k]? = some (.cells cur e (0, 0)) := by
  rcases hown.2 with ⟨rfl, _⟩ | ⟨g, cap, cur, rfl, _, h3, _⟩
  · cases hk
  · cases hk; exact ⟨_, h3⟩
theorem tale_fr {base b : Nat} {w w' : World} {F v : Value} {xs : List Int} {ys : List Value} {n : Nat} (h : TaleAt base w F xs) (ho : w.ownsRow b 59 1 v n ys) (hf : Fr (fun k => v.ownBlock = some k) w w') : TaleAt base w' F xs := by
  obtain ⟨B, u, h0, h1, h2, h3, h4⟩ := h
  refine ⟨B, u, h0, h1, hf.blk h2 fun e => ?_, h3, own_kept h4 fun g hg => hf.block g (h4.lt g hg).2 fun e => ?_⟩
  · obtain ⟨c1, k1⟩ := own_type ho B e
    rw [h2] at k1; cases k1
  · obtain ⟨c1, k1⟩ := own_type ho g e
    obtain ⟨c2, k2⟩ := own_type h4 g hg
    rw [k1] at k2; cases k2
theorem tale_base {base base' : Nat} {w : World} {F : Value} {xs : List Int} (h : TaleAt base w F xs) (hb : base' ≤ base) : TaleAt base' w F xs := by
  obtain ⟨B, u, h0, h1, h2, h3, h4⟩ := h
  exact ⟨B, u, Nat.le_trans hb h0, h1, h2, h3, row_base' h4 hb⟩
/-- a pointer to a set, or none -/
def PtrAt (w : World) (p : Value) (xs : List Int) : Prop := (p = .pointer none ∧ xs = []) ∨ ∃ s ob base, p = .pointer (some ⟨s, 0, none⟩) ∧ SetAt base w s ob xs
theorem ptr_below {w W : World} {p : Value} {xs : List Int} (h : PtrAt w p xs) (hb : Below w.heap.size w W) : PtrAt W p xs := by
  rcases h with h | ⟨s, ob, base, h1, h2⟩
  · exact .inl h
  · exact .inr ⟨s, ob, base, h1, set_below h2 hb⟩
theorem ptr_all {w : World} {p : Value} {xs : List Int} (h : PtrAt w p xs) (hl : xs.length ≤ 1000000) : Calls Tryz.prog 43 #[p] w (AllP xs w) := by
  rcases h with ⟨rfl, rfl⟩ | ⟨s, ob, base, rfl, h2⟩
  · exact set_all_nil w
  · exact set_all h2 hl
/-- the tales so far -/
def UniG (w : World) (xss : List (List Int)) (k : Nat) (v : Value) (W : World) : Prop :=
  (∃ Fs : List Value, Fs.length = k ∧ OwnF w.heap.size W v Fs ∧ ∀ (j : Nat) (F : Value), Fs[j]? = some F → ∃ xs, xss[j]? = some xs ∧ TaleAt w.heap.size W F xs) ∧ Below w.heap.size w W
end Go.Proofs.YteiiaocohpbanaaGreat
end
section
/- Layer 10: the document's Same; sets that are none. -/
namespace Go.Proofs.YteiiaocohpbanaaGreat
set_option linter.unusedVariables false
set_option linter.unusedSimpArgs false
open Go Go.RowKit Go.Lib Go.Sort Go.Shelf

set_option maxHeartbeats 4000000 in
theorem same10_eq {w : World} (A B : Option Addr) (xs ys : List Int) (c d : Nat) (hlen : xs.length = ys.length) (hl : xs.length ≤ 1000000) (hA : ReadsI w A xs) (hB : ReadsI w B ys) :
    Calls Tryz.prog 22 #[.slice A xs.length c, .slice B ys.length d] w fun e w' => e = .returned (.bool (decide (xs = ys))) ∧ ∃ n, w' = w.drewN n := by
  have HA := Lib.hid hA
  have HB := Lib.hid hB
  have HL := Lib.hid hlen
  have hne : ((xs.length : Int) != (ys.length : Int)) = false := by rw [hlen]; simp
  clear hA hB hlen
  go_enter Tryz.func22, Tryz.ntmps22
  go_wp2_with fail
  go_loopw [5] (fun i wr => ∃ k : Nat, i = .int .i64 k ∧ k ≤ xs.length ∧ Hid (xs.take k = ys.take k ∧ ∃ n, wr = w.drewN n)) (fun i _ => xs.length - (Go.RowKit.intOf i).toNat)
  case atStart => exact ⟨0, rfl, Nat.zero_le _, rfl, 0, rfl⟩
  case round =>
    obtain ⟨k, rfl, hk, HQ⟩ := hrel
    by_cases hlt : k < xs.length
    · have hlt2 : k < ys.length := by have := HL.out; omega
      have hcell : ∀ p, wr.cell? p = w.cell? p := fun p => by obtain ⟨n, rfl⟩ := HQ.out.2; rfl
      obtain ⟨g, o, rfl, _, ha⟩ := HA.out (by omega)
      obtain ⟨g2, o2, rfl, _, hb⟩ := HB.out (by omega)
      have a1 := ha k hlt
      have b1 := hb k hlt2
      rw [← hcell] at a1 b1
      obtain ⟨x, hx⟩ : ∃ x, xs[k] = x := ⟨_, rfl⟩
      obtain ⟨y, hy⟩ : ∃ y, ys[k] = y := ⟨_, rfl⟩
      rw [hx] at a1
      rw [hy] at b1
      obtain ⟨eb, heb⟩ : ∃ eb, (x != y) = eb := ⟨_, rfl⟩
      have HE := Lib.hid (And.intro hx (And.intro hy heb))
      have hbb := heb
      clear hcell ha hb hx hy heb
      have p1 : (k : Int) < (xs.length : Int) := by omega
      have p2 : (k : Int) < (ys.length : Int) := by omega
      go_wp2_with fail
      go_quiet (fail)
      all_goals go_wp2_with fail
      · rename_i hx
        have hd : decide (xs = ys) = false := by
          rw [decide_eq_false_iff_not]
          intro e
          obtain ⟨h1, h2, h3⟩ := HE.out
          subst e
          rw [← h1, ← h2] at h3
          simp at h3
          subst h3
          cases hx
        obtain ⟨_, n, hn⟩ := HQ.out
        rw [hd]
        subst hn
        go_ret
        exact ⟨rfl, _, by rw [World.drewN_drewN]⟩
      · rename_i hx
        have h3 : xs[k] = ys[k] := by
          obtain ⟨h1, h2, h3⟩ := HE.out
          rw [h1, h2]
          have : (x != y) = false := by rw [h3]; simpa using hx
          simpa using this
        have h4 : xs.take (k + 1) = ys.take (k + 1) := by
          rw [List.take_succ_eq_append_getElem hlt, List.take_succ_eq_append_getElem hlt2, HQ.out.1, h3]
        obtain ⟨_, n, hn⟩ := HQ.out
        exact ⟨⟨k + 1, by go_num, by omega, h4, n + nq, by subst hn; rw [World.drewN_drewN]⟩, by simp [Go.RowKit.intOf]; omega⟩
    · obtain rfl : k = xs.length := by omega
      have hab : xs = ys := by
        have := HQ.out.1
        rw [List.take_of_length_le (Nat.le_refl _), List.take_of_length_le (by have := HL.out; omega)] at this
        exact this
      have hd : decide (xs = ys) = true := by simp [hab]
      obtain ⟨_, n, hn⟩ := HQ.out
      have p1 : ¬ ((xs.length : Int) < (xs.length : Int)) := by omega
      subst hn
      go_wp2_with fail
      go_ret
      exact ⟨rfl, _, rfl⟩
theorem set_add_nil (A : Option Addr) (l c : Nat) (w : World) : Calls Tryz.prog 52 #[.pointer none, .slice A l c] w fun e w' => e = .returned (.int .i64 0) ∧ w' = w := by
  go_enter Tryz.func52, Tryz.ntmps52
  go_wp2_with fail
  go_ret
  exact ⟨rfl, rfl⟩
theorem set_rem_nil (A : Option Addr) (l c : Nat) (w : World) : Calls Tryz.prog 46 #[.pointer none, .slice A l c] w fun e w' => e = .returned (.int .i64 0) ∧ w' = w := by
  go_enter Tryz.func46, Tryz.ntmps46
  go_wp2_with fail
  go_ret
  exact ⟨rfl, rfl⟩

def WithP (w : World) (e : Ending) (w' : World) : Prop := (∃ F, e = .returned F ∧ Tells w' F []) ∧ Below w.heap.size w w'
end Go.Proofs.YteiiaocohpbanaaGreat
end
section
/- Layer 10: awake. -/
namespace Go.Proofs.YteiiaocohpbanaaGreat
set_option linter.unusedVariables false
set_option linter.unusedSimpArgs false
open Go Go.RowKit Go.Lib Go.Sort Go.Shelf

theorem set_of' {w : World} (A : Option Addr) (xs : List Int) (n c : Nat) (hn : xs.length = n) (hl : xs.length ≤ 1000000) (hr : ReadsI w A xs) (zs : List Int) (hz : normI xs = zs) :
    Calls Tryz.prog 51 #[.slice A n c] w (OfP zs w) := by
  subst hn; subst hz
  exact set_of A xs c hl hr (normI_ok xs).1
theorem reads_new {w : World} {cs : Array Value} {xs : List Int} (h : ∀ j (h : j < xs.length), cs[j]? = some (.int .i64 xs[j])) : ReadsI (w.alloc (.cells cs 3)) (some ⟨w.heap.size, 0, none⟩) xs := fun _ =>
  ⟨_, _, rfl, by simp, fun j hj => by rw [Nat.zero_add, blk_cell (heap_alloc_new w _) j]; exact h j hj⟩
theorem reads_own {base : Nat} {w : World} {A : Option Addr} {n c : Nat} {xs : List Int} (h : OwnI base w (.slice A n c) xs) : ReadsI w A xs := fun h0 => by
  rcases h.2 with ⟨h1, h2⟩ | ⟨g, cap, cur, h1, h3, h4, h5, _, h6, h7⟩
  · omega
  · injection h1 with q1 q2 q3
    subst q1
    rw [Nat.mul_one] at h7
    refine ⟨g, 0, rfl, blk_lt h4, fun j hj => ?_⟩
    rw [Nat.zero_add, blk_cell h4 j, own_get (base := 0) (w := w) (cap := 0) h4 h7 j hj]
theorem same10 {w : World} (A B : Option Addr) (xs ys : List Int) (n m c d : Nat) (hn : xs.length = n) (hm : ys.length = m) (hlen : n = m) (hl : xs.length ≤ 1000000) (hA : ReadsI w A xs) (hB : ReadsI w B ys) :
    Calls Tryz.prog 22 #[.slice A n c, .slice B m d] w fun e w' => e = .returned (.bool (decide (xs = ys))) ∧ ∃ n, w' = w.drewN n := by
  subst hn; subst hm
  exact same10_eq A B xs ys c d hlen hl hA hB

end Go.Proofs.YteiiaocohpbanaaGreat
end
