/- Texts of this proof, one behind the other. -/
import Derived.Test.YtnoeblnljfnecaaGreatDoorWishBothG6
import Derived.Test.YtnoeblnljfnecaaGreatDoorWishBothG3
import Derived.Test.YtnoeblnljfnecaaGreatDoorWishBothG4
import Derived.WalkKit
import Derived.Lib.Hide
import Derived.WalkSpells
import Derived.WalkLawsBesides
import Derived.Test.YtnoeblnljfnecaaGreatDoorProg
import Derived.Test.YtnoeblnljfnecaaGreatDoorWishBothG1
import Derived.Deep.QuietTactic
import Derived.BigQuiet
import Derived.Outline
section
/- Layer 11: a relation of ints and strings as it lies: New, rights, Has, Count, Len, Of, By. -/
namespace Go.Proofs.YtnoeblnljfnecaaGreatDoor
set_option linter.unusedVariables false
set_option linter.unusedSimpArgs false
open Go Go.RowKit Go.Maps Go.Lib

/-- a relation as it lies: its block, its maps, how many may be, the pairs as they came -/
structure RelStIS (base : Nat) (w : World) (t b1 b2 : Nat) (most : Int) (L : List ((Int) × (List UInt8))) (T1 : List ((Int) × SetE (List UInt8))) (T2 : List ((List UInt8) × SetE (Int))) : Prop where
  le : base ≤ t
  blk : w.heap[t]? = some (.cells #[.int .i64 most, .int .i64 L.length, .map (some b1), .map (some b2)] 85 (0, 0))
  m1 : MapStIS base w b1 T1
  m2 : MapStSI base w b2 T2
  n1 : NeTIS T1
  n2 : NeTSI T2
  ap : ∀ j, BlP b1 T1 j → ¬ BlP b2 T2 j
  t1 : ¬ BlP b1 T1 t
  t2 : ¬ BlP b2 T2 t
  h1 : ∀ a b, b ∈ lk T1 a ↔ (a, b) ∈ L
  h2 : ∀ a b, a ∈ lk T2 b ↔ (a, b) ∈ L
  nd : L.Nodup
theorem RelStIS.same {base : Nat} {w w' : World} {t b1 b2 : Nat} {most : Int} {L : List ((Int) × (List UInt8))} {T1 : List ((Int) × SetE (List UInt8))} {T2 : List ((List UInt8) × SetE (Int))} (h : RelStIS base w t b1 b2 most L T1 T2)
    (hs : ∀ j, (j = t ∨ BlP b1 T1 j ∨ BlP b2 T2 j) → w'.heap[j]? = w.heap[j]?) : RelStIS base w' t b1 b2 most L T1 T2 :=
  ⟨h.le, (hs t (.inl rfl)).trans h.blk, mapStIS_same h.m1 fun j hj => hs j (.inr (.inl hj)), mapStSI_same h.m2 fun j hj => hs j (.inr (.inr hj)), h.n1, h.n2, h.ap, h.t1, h.t2, h.h1, h.h2, h.nd⟩
theorem RelStIS.lt {base : Nat} {w : World} {t b1 b2 : Nat} {most : Int} {L : List ((Int) × (List UInt8))} {T1 : List ((Int) × SetE (List UInt8))} {T2 : List ((List UInt8) × SetE (Int))} (h : RelStIS base w t b1 b2 most L T1 T2)
    {j : Nat} (hj : j = t ∨ BlP b1 T1 j ∨ BlP b2 T2 j) : base ≤ j ∧ j < w.heap.size := by
  rcases hj with rfl | hj | hj
  · exact ⟨h.le, blk_lt h.blk⟩
  · exact blPIS_lt h.m1 hj
  · exact blPSI_lt h.m2 hj
theorem RelStIS.keys {base : Nat} {w : World} {t b1 b2 : Nat} {most : Int} {L : List ((Int) × (List UInt8))} {T1 : List ((Int) × SetE (List UInt8))} {T2 : List ((List UInt8) × SetE (Int))} (h : RelStIS base w t b1 b2 most L T1 T2) :
    T1.length ≤ L.length ∧ T2.length ≤ L.length ∧ (∀ a, (lk T1 a).length ≤ L.length) ∧ ∀ b, (lk T2 b).length ≤ L.length := by
  refine ⟨keys_le (mapStIS_nodup h.m1) h.n1 fun a b hb => (h.h1 a b).1 hb, ?_, fun a => lk_le (up_nodupS (lkUpIS h.m1 a)) fun b hb => (h.h1 a b).1 hb, fun b => ?_⟩
  · have := keys_le (L := L.map fun p => (p.2, p.1)) (mapStSI_nodup h.m2) h.n2 fun b a ha => List.mem_map.2 ⟨(a, b), (h.h2 a b).1 ha, rfl⟩
    simpa using this
  · have := lk_le (L := L.map fun p => (p.2, p.1)) (a := b) (up_nodup (lkUpSI h.m2 b)) fun a ha => List.mem_map.2 ⟨(a, b), (h.h2 a b).1 ha, rfl⟩
    simpa using this
section
variable {base : Nat} {w : World} {t b1 b2 : Nat} {most : Int} {L : List ((Int) × (List UInt8))} {T1 : List ((Int) × SetE (List UInt8))} {T2 : List ((List UInt8) × SetE (Int))}
set_option maxHeartbeats 1000000 in
theorem rightsIS (h : RelStIS base w t b1 b2 most L T1 T2) {a : Int} (ha : OkKIS a) :
    Calls Tryz.prog 49 #[.pointer (some ⟨t, 0, none⟩), .int .i64 a] w fun e w' => e = .returned (.pointer ((lookM T1 a).map fun e => ⟨e.s, 0, none⟩)) ∧ w' = w := by
  have c2 := blk_cell h.blk 2
  have hlook := mlookIS h.m1.2.1 ha
  rw [kp_look, Option.map_map] at hlook
  unfold kVIS at hlook
  obtain ⟨p, hp⟩ : ∃ p, Option.map ((fun s => (⟨s, 0, none⟩ : Addr)) ∘ fun x => x.s) (lookM T1 a) = p := ⟨_, rfl⟩
  rw [hp] at hlook
  have HP := Lib.hid hp
  clear hp h
  go_enter Tryz.func49, Tryz.ntmps49
  go_wp2_with fail
  go_ret
  exact ⟨by rw [← HP.out]; rfl, rfl⟩
theorem hasEqIS (h : RelStIS base w t b1 b2 most L T1 T2) (a : Int) (b : List UInt8) : (lk T1 a).contains b = decide ((a, b) ∈ L) := by
  rw [Bool.eq_iff_iff, List.contains_iff_mem, decide_eq_true_iff]
  exact h.h1 a b
set_option maxHeartbeats 1000000 in
theorem relHasIS (h : RelStIS base w t b1 b2 most L T1 T2) (hL : L.length ≤ 100000) {a : Int} (ha : OkKIS a) (b : List UInt8) :
    Calls Tryz.prog 38 #[.pointer (some ⟨t, 0, none⟩), .int .i64 a, .string (bs b)] w fun e w' => e = .returned (.bool (decide ((a, b) ∈ L))) ∧ ∃ q, w' = w.drewN q := by
  have hr := rightsIS h ha
  have hq := hasEqIS h a b
  have hk := (h.keys).2.2.1 a
  cases hl : lookM T1 a with
  | none =>
    rw [hl] at hr
    rw [lk_noneIS hl] at hq
    rw [← hq]
    have HS := Lib.hid (set_has_nilS b w)
    have HR := Lib.hid hr
    clear hr hq h hl
    go_enter Tryz.func38, Tryz.ntmps38
    go_wp2_with fail
    refine HR.out.mono ?_
    rintro e w1 ⟨rfl, rfl⟩
    go_wp2_with fail
    refine HS.out.mono ?_
    rintro e w2 ⟨rfl, rfl⟩
    go_wp2_with fail
    go_ret
    exact ⟨rfl, 0, rfl⟩
  | some e =>
    rw [hl] at hr
    rw [lk_someIS hl] at hq hk
    rw [← hq]
    have HS := Lib.hid (set_hasS (h.m1.2.2.1 _ (lookM_memP hl)).1 (by dsimp only []; omega) b)
    have HR := Lib.hid hr
    obtain ⟨es, eob, exs⟩ := e
    dsimp only [Option.map_some] at HR HS
    dsimp only []
    obtain ⟨d, hd⟩ : ∃ d, exs.contains b = d := ⟨_, rfl⟩
    rw [hd] at HS ⊢
    clear hr hq h hl hd
    go_enter Tryz.func38, Tryz.ntmps38
    go_wp2_with fail
    refine HR.out.mono ?_
    rintro e w1 ⟨rfl, rfl⟩
    go_wp2_with fail
    refine HS.out.mono ?_
    rintro e w2 ⟨rfl, q, rfl⟩
    go_wp2_with fail
    go_ret
    exact ⟨rfl, q, rfl⟩
set_option maxHeartbeats 1000000 in
theorem relCountIS (h : RelStIS base w t b1 b2 most L T1 T2) {a : Int} (ha : OkKIS a) :
    Calls Tryz.prog 37 #[.pointer (some ⟨t, 0, none⟩), .int .i64 a] w fun e w' => e = .returned (.int .i64 (lk T1 a).length) ∧ w' = w := by
  have hr := rightsIS h ha
  cases hl : lookM T1 a with
  | none =>
    rw [hl] at hr
    rw [lk_noneIS hl]
    have HS := Lib.hid (set_len_nilS w)
    have HR := Lib.hid hr
    clear hr h hl
    go_enter Tryz.func37, Tryz.ntmps37
    go_wp2_with fail
    refine HR.out.mono ?_
    rintro e w1 ⟨rfl, rfl⟩
    go_wp2_with fail
    refine HS.out.mono ?_
    rintro e w2 ⟨rfl, rfl⟩
    go_wp2_with fail
    go_ret
    exact ⟨rfl, rfl⟩
  | some e =>
    rw [hl] at hr
    rw [lk_someIS hl]
    have HS := Lib.hid (set_lenS (h.m1.2.2.1 _ (lookM_memP hl)).1)
    have HR := Lib.hid hr
    obtain ⟨es, eob, exs⟩ := e
    dsimp only [Option.map_some] at HR HS
    dsimp only []
    clear hr h hl
    go_enter Tryz.func37, Tryz.ntmps37
    go_wp2_with fail
    refine HR.out.mono ?_
    rintro e w1 ⟨rfl, rfl⟩
    go_wp2_with fail
    refine HS.out.mono ?_
    rintro e w2 ⟨rfl, rfl⟩
    go_wp2_with fail
    go_ret
    exact ⟨rfl, rfl⟩

set_option maxHeartbeats 1000000 in
theorem relOfIS (h : RelStIS base w t b1 b2 most L T1 T2) (hL : L.length ≤ 100000) {a : Int} (ha : OkKIS a) :
    Calls Tryz.prog 32 #[.pointer (some ⟨t, 0, none⟩), .int .i64 a] w (AllPS (lk T1 a) w) := by
  have hr := rightsIS h ha
  have hk := (h.keys).2.2.1 a
  have HR := Lib.hid hr
  have HA : Hid (Calls Tryz.prog 50 #[.pointer ((lookM T1 a).map fun e => ⟨e.s, 0, none⟩)] w (AllPS (lk T1 a) w)) := by
    cases hl : lookM T1 a with
    | none => rw [lk_noneIS hl]; exact set_all_nilS w
    | some e => rw [lk_someIS hl]; exact set_allS (h.m1.2.2.1 _ (lookM_memP hl)).1 (by rw [lk_someIS hl] at hk; exact Nat.le_trans hk (by omega))
  clear hr h
  obtain ⟨p, hp⟩ : ∃ p, (lookM T1 a).map (fun e => (⟨e.s, 0, none⟩ : Addr)) = p := ⟨_, rfl⟩
  rw [hp] at HR HA
  clear hp
  go_enter Tryz.func32, Tryz.ntmps32
  go_wp2_with fail
  refine HR.out.mono ?_
  rintro e w1 ⟨rfl, rfl⟩
  go_wp2_with fail
  refine HA.out.mono ?_
  intro e w2 h
  obtain ⟨⟨F, rfl, h4⟩, h5⟩ := h
  have H2 := Lib.hid (And.intro h4 h5)
  clear h4 h5
  go_wp2_with fail
  go_ret
  exact ⟨⟨_, rfl, H2.out.1⟩, H2.out.2⟩
set_option maxHeartbeats 1000000 in
theorem relByIS (h : RelStIS base w t b1 b2 most L T1 T2) (hL : L.length ≤ 100000) {b : List UInt8} (hb : OkKSI b) :
    Calls Tryz.prog 54 #[.pointer (some ⟨t, 0, none⟩), .string (bs b)] w (AllP (lk T2 b) w) := by
  have c3 := blk_cell h.blk 3
  have hlook := mlookSI h.m2.2.1 hb
  rw [kp_look, Option.map_map] at hlook
  unfold kVSI at hlook
  have hk := (h.keys).2.2.2 b
  have HA : Hid (Calls Tryz.prog 71 #[.pointer ((lookM T2 b).map fun e => ⟨e.s, 0, none⟩)] w (AllP (lk T2 b) w)) := by
    cases hl : lookM T2 b with
    | none => rw [lk_noneSI hl]; exact set_all_nil w
    | some e => rw [lk_someSI hl]; exact set_all (h.m2.2.2.1 _ (lookM_memP hl)).1 (by rw [lk_someSI hl] at hk; exact Nat.le_trans hk (by omega))
  obtain ⟨p, hp⟩ : ∃ p, Option.map ((fun s => (⟨s, 0, none⟩ : Addr)) ∘ fun x => x.s) (lookM T2 b) = p := ⟨_, rfl⟩
  rw [hp] at hlook
  have hp2 : (lookM T2 b).map (fun e => (⟨e.s, 0, none⟩ : Addr)) = p := hp
  rw [hp2] at HA
  clear hp hp2 h
  go_enter Tryz.func54, Tryz.ntmps54
  go_wp2_with fail
  refine HA.out.mono ?_
  intro e w2 h
  obtain ⟨⟨F, rfl, h4⟩, h5⟩ := h
  have H2 := Lib.hid (And.intro h4 h5)
  clear h4 h5
  go_wp2_with fail
  go_ret
  exact ⟨⟨_, rfl, H2.out.1⟩, H2.out.2⟩
end
end Go.Proofs.YtnoeblnljfnecaaGreatDoor
end
section
/- Layer 11: a relation of ints and strings: New, Add, Remove; nil ones. -/
namespace Go.Proofs.YtnoeblnljfnecaaGreatDoor
set_option linter.unusedVariables false
set_option linter.unusedSimpArgs false
open Go Go.RowKit Go.Maps Go.Lib

/-- a relation, in words of the blocks that it has -/
def RelAtIS (base : Nat) (w : World) (t : Nat) (X : Nat → Prop) (most : Int) (L : List ((Int) × (List UInt8))) : Prop := ∃ b1 b2 T1 T2, RelStIS base w t b1 b2 most L T1 T2 ∧ ∀ j, X j ↔ (j = t ∨ BlP b1 T1 j ∨ BlP b2 T2 j)
theorem RelAtIS.same {base : Nat} {w w' : World} {t : Nat} {X : Nat → Prop} {most : Int} {L : List ((Int) × (List UInt8))} (h : RelAtIS base w t X most L) (hs : ∀ j, X j → w'.heap[j]? = w.heap[j]?) : RelAtIS base w' t X most L := by
  obtain ⟨b1, b2, T1, T2, h1, h2⟩ := h
  exact ⟨b1, b2, T1, T2, h1.same fun j hj => hs j ((h2 j).2 hj), h2⟩
theorem RelAtIS.lt {base : Nat} {w : World} {t : Nat} {X : Nat → Prop} {most : Int} {L : List ((Int) × (List UInt8))} (h : RelAtIS base w t X most L) {j : Nat} (hj : X j) : base ≤ j ∧ j < w.heap.size := by
  obtain ⟨b1, b2, T1, T2, h1, h2⟩ := h
  exact h1.lt ((h2 j).1 hj)
theorem RelAtIS.fr {base : Nat} {w w' : World} {t : Nat} {X Z : Nat → Prop} {most : Int} {L : List ((Int) × (List UInt8))} (h : RelAtIS base w t X most L) (hf : Fr Z w w') (hz : ∀ j, X j → ¬ Z j) : RelAtIS base w' t X most L := h.same fun j hj => hf.block j (h.lt hj).2 (hz j hj)
theorem RelAtIS.own {base : Nat} {w : World} {t : Nat} {X : Nat → Prop} {most : Int} {L : List ((Int) × (List UInt8))} (h : RelAtIS base w t X most L) : X t := by
  obtain ⟨b1, b2, T1, T2, h1, h2⟩ := h
  exact (h2 t).2 (.inl rfl)
theorem RelAtIS.nodup {base : Nat} {w : World} {t : Nat} {X : Nat → Prop} {most : Int} {L : List ((Int) × (List UInt8))} (h : RelAtIS base w t X most L) : L.Nodup := by
  obtain ⟨b1, b2, T1, T2, h1, h2⟩ := h
  exact h1.nd
/-- a new one -/
def NewRIS (most : Int) (w : World) (e : Ending) (w' : World) : Prop := ∃ t X, e = .returned (.tuple #[.pointer (some ⟨t, 0, none⟩), .int .i64 0]) ∧ RelAtIS w.heap.size w' t X most [] ∧ (∀ j, X j → w.heap.size ≤ j) ∧ Below w.heap.size w w'
set_option maxHeartbeats 1000000 in
theorem relNewIS {most : Int} (hm : 0 ≤ most ∧ most ≤ 100000) (w : World) : Calls Tryz.prog 28 #[.int .i64 most] w (NewRIS most w) := by
  have hmm := @run_makeMap Tryz.prog
  have p1 : decide (most < 0) = false := by simp; omega
  have p2 : decide (100000 < most) = false := by simp; omega
  have p3 : ¬ most < 0 := by omega
  have p4 : ¬ 100000 < most := by omega
  go_enter Tryz.func28, Tryz.ntmps28
  go_wp2_with fail
  go_ret2
  have z1 : (w.alloc (Obj.map #[] 0)).heap.size = w.heap.size + 1 := World.size_alloc _ _
  have z2 : ((w.alloc (Obj.map #[] 0)).alloc (Obj.map #[] 0)).heap.size = w.heap.size + 2 := by rw [World.size_alloc, World.size_alloc]
  refine ⟨w.heap.size + 2, fun j => j = w.heap.size + 2 ∨ j = w.heap.size ∨ j = w.heap.size + 1, rfl, ⟨w.heap.size, w.heap.size + 1, [], [], ⟨by omega, ?_, ?_, ?_, (fun p hp => by cases hp), (fun p hp => by cases hp), ?_, ?_, ?_, ?_, ?_, List.nodup_nil⟩, fun j => ?_⟩, fun j hj => by omega, (((Below.refl _ _).alloc (Nat.le_refl _) _).alloc (by omega) _).alloc (by omega) _⟩
  · have := heap_alloc_new ((w.alloc (Obj.map #[] 0)).alloc (Obj.map #[] 0)) (Obj.cells #[Value.int .i64 most, Value.int .i64 0, Value.map (some w.heap.size), Value.map (some (w.heap.size + 1))] 85)
    rwa [z2] at this
  · exact made_stIS (Nat.le_refl _) ⟨0, ((World.ownsMap_made w _ _ _).alloc _).alloc _, rfl⟩
  · have := ((World.ownsMap_made (P := Tryz.prog) (w.alloc (Obj.map #[] 0)) 9 ptrE).alloc (Obj.cells #[Value.int .i64 most, Value.int .i64 0, Value.map (some w.heap.size), Value.map (some (w.heap.size + 1))] 85))
    rw [z1] at this
    exact made_stSI (by omega) ⟨0, this, rfl⟩
  · rintro j (rfl | ⟨p, hp, _⟩) (h | ⟨p, hp, _⟩)
    · omega
    · cases hp
    · cases hp
    · cases hp
  · rintro (h | ⟨p, hp, _⟩)
    · omega
    · cases hp
  · rintro (h | ⟨p, hp, _⟩)
    · omega
    · cases hp
  · intro a b; simp [lk, lookM]
  · intro a b; simp [lk, lookM]
  · simp [BlP]
set_option maxHeartbeats 1000000 in
theorem relNewBadIS {most : Int} (hm : most < 0 ∨ 100000 < most) (w : World) : Calls Tryz.prog 28 #[.int .i64 most] w fun e w' => e = .returned (.tuple #[.pointer none, .int .i64 2]) ∧ w' = w := by
  by_cases h0 : most < 0
  · have p1 : decide (most < 0) = true := by simp; omega
    go_enter Tryz.func28, Tryz.ntmps28
    go_wp2_with fail
    go_ret2
    exact ⟨rfl, rfl⟩
  · have p1 : decide (most < 0) = false := by simp; omega
    have p2 : decide (100000 < most) = true := by simp; omega
    have p4 : 100000 < most := by omega
    go_enter Tryz.func28, Tryz.ntmps28
    go_wp2_with fail
    go_ret2
    exact ⟨rfl, rfl⟩
theorem insMemIS (xs : List (List UInt8)) (x y : List UInt8) : y ∈ insIS xs x ↔ y = x ∨ y ∈ xs := insI_memS xs x y
/-- a pair came: the state of it -/
theorem add_stIS {base : Nat} {w w1 w2 : World} {t b1 b2 : Nat} {most : Int} {L : List ((Int) × (List UInt8))} {T1 : List ((Int) × SetE (List UInt8))} {T2 : List ((List UInt8) × SetE (Int))} (h : RelStIS base w t b1 b2 most L T1 T2)
    {a : Int} {b : List UInt8} (hn : (a, b) ∉ L) (h1 : PutPIS base b1 T1 a (insIS (lk T1 a) b) w w1) (h2 : PutPSI base b2 T2 b (insI (lk T2 b) a) w1 w2) :
    ∃ X', RelAtIS base (w2.setCell ⟨t, 1, none⟩ (.int .i64 ((L.length : Int) + 1))) t X' most (L ++ [(a, b)]) ∧ (∀ j, X' j → (j = t ∨ BlP b1 T1 j ∨ BlP b2 T2 j) ∨ w.heap.size ≤ j) ∧ Fr (fun j => j = t ∨ BlP b1 T1 j ∨ BlP b2 T2 j) w (w2.setCell ⟨t, 1, none⟩ (.int .i64 ((L.length : Int) + 1))) := by
  obtain ⟨T1', p1, p2, p3, p4, p5, p6⟩ := h1
  obtain ⟨T2', q1, q2, q3, q4, q5, q6⟩ := h2
  have hz := p4.size
  have l1 : ∀ j, BlP b1 T1 j → j < w.heap.size := fun j hj => (blPIS_lt h.m1 hj).2
  have l2 : ∀ j, BlP b2 T2 j → j < w.heap.size := fun j hj => (blPSI_lt h.m2 hj).2
  have l1' : ∀ j, BlP b1 T1' j → j < w1.heap.size := fun j hj => (blPIS_lt p1 hj).2
  have lt := blk_lt h.blk
  have sep : ∀ j, BlP b1 T1' j → ¬ BlP b2 T2' j := fun j hj hj2 => by
    rcases p5 j hj with e | e
    · rcases q5 j hj2 with e2 | e2
      · exact h.ap j e e2
      · have := l1 j e; omega
    · rcases q5 j hj2 with e2 | e2
      · have := l2 j e2; omega
      · have := l1' j hj; omega
  have t1' : ¬ BlP b1 T1' t := fun e => by
    rcases p5 t e with e | e
    · exact h.t1 e
    · omega
  have t2' : ¬ BlP b2 T2' t := fun e => by
    rcases q5 t e with e | e
    · exact h.t2 e
    · omega
  have m1 : MapStIS base w2 b1 T1' := mapStIS_fr p1 q4 fun j hj e => by
    rcases p5 j hj with e1 | e1
    · exact h.ap j e1 e
    · have := l2 j e; omega
  have fc : Fr (fun j => j = t) w2 (w2.setCell ⟨t, 1, none⟩ (.int .i64 ((L.length : Int) + 1))) := Fr.setCell (X := fun j => j = t) (Fr.refl _ w2) _ rfl _
  have hb2 : w2.heap[t]? = some (.cells #[.int .i64 most, .int .i64 L.length, .map (some b1), .map (some b2)] 85 (0, 0)) := q4.blk (p4.blk h.blk h.t1) h.t2
  refine ⟨fun j => j = t ∨ BlP b1 T1' j ∨ BlP b2 T2' j, ⟨b1, b2, T1', T2', ⟨h.le, ?_, mapStIS_fr m1 fc fun j hj e => t1' (e ▸ hj), mapStSI_fr q1 fc fun j hj e => t2' (e ▸ hj), p3 h.n1, q3 h.n2, sep, t1', t2', fun a' b' => ?_, fun a' b' => ?_, ?_⟩, fun j => Iff.rfl⟩, fun j hj => ?_, ?_⟩
  · have := blk_set hb2 1 (.int .i64 ((L.length : Int) + 1))
    rw [this, List.length_append, List.length_singleton]
    rfl
  · rw [p2, List.mem_append, List.mem_singleton]
    by_cases e : a' = a
    · subst e
      rw [if_pos rfl, insI_memS, h.h1]
      simp [or_comm]
    · rw [if_neg e, h.h1]
      simp [e]
  · rw [q2, List.mem_append, List.mem_singleton]
    by_cases e : b' = b
    · subst e
      rw [if_pos rfl, insI_mem, h.h2]
      simp [or_comm]
    · rw [if_neg e, h.h2]
      simp [e]
  · rw [List.nodup_append]
    refine ⟨h.nd, by simp, fun x hx y hy e => ?_⟩
    rw [List.mem_singleton] at hy
    exact hn (by rw [← hy, ← e]; exact hx)
  · rcases hj with rfl | hj | hj
    · exact .inl (.inl rfl)
    · rcases p5 j hj with e | e
      · exact .inl (.inr (.inl e))
      · exact .inr e
    · rcases q5 j hj with e | e
      · exact .inl (.inr (.inr e))
      · exact .inr (by omega)
  · exact ((p4.mono fun j _ e => .inr (.inl e) : Fr (fun j => j = t ∨ BlP b1 T1 j ∨ BlP b2 T2 j) w w1).trans3 q4 fun j _ e => .inr (.inr e)).trans3 fc fun j _ e => .inl e
/-- what Add does -/
def AddRIS (base t : Nat) (X : Nat → Prop) (most : Int) (L : List ((Int) × (List UInt8))) (a : Int) (b : List UInt8) (w : World) (e : Ending) (w' : World) : Prop :=
  ∃ X', (∀ j, X' j → X j ∨ w.heap.size ≤ j) ∧ Fr X w w' ∧
    (((a, b) ∈ L ∧ e = .returned (.int .i64 6) ∧ RelAtIS base w' t X' most L) ∨
     ((a, b) ∉ L ∧ (∀ xs : List (List UInt8), xs.Pairwise (· < ·) → (∀ x, x ∈ xs ↔ (a, x) ∈ L) → most ≤ xs.length) ∧ e = .returned (.int .i64 7) ∧ RelAtIS base w' t X' most L) ∨
     ((a, b) ∉ L ∧ (∀ xs : List (List UInt8), xs.Pairwise (· < ·) → (∀ x, x ∈ xs ↔ (a, x) ∈ L) → (xs.length : Int) < most) ∧ e = .returned (.int .i64 0) ∧ RelAtIS base w' t X' most (L ++ [(a, b)])))
set_option maxRecDepth 100000 in
set_option maxHeartbeats 4000000 in
theorem relAddIS {base : Nat} {w : World} {t : Nat} {X : Nat → Prop} {most : Int} {L : List ((Int) × (List UInt8))} (h : RelAtIS base w t X most L) (hbw : base ≤ w.heap.size) (hL : L.length ≤ 90000) {a : Int} (ha : OkKIS a) {b : List UInt8} (hb : OkKSI b) :
    Calls Tryz.prog 34 #[.pointer (some ⟨t, 0, none⟩), .int .i64 a, .string (bs b)] w (AddRIS base t X most L a b w) := by
  obtain ⟨b1, b2, T1, T2, hR, hX⟩ := h
  have HH := relHasIS hR (by omega) ha b
  have hks := hR.keys
  obtain ⟨d, hd⟩ : ∃ d, decide ((a, b) ∈ L) = d := ⟨_, rfl⟩
  rw [hd] at HH
  have HHas := Lib.hid HH
  have H := Lib.hid (And.intro hR (And.intro hX hd))
  have HC : Hid (∀ V : World, V.heap = w.heap → Calls Tryz.prog 37 #[.pointer (some ⟨t, 0, none⟩), .int .i64 a] V fun e w' => e = .returned (.int .i64 (lk T1 a).length) ∧ w' = V) := fun V hV => relCountIS (hR.same fun j _ => by rw [hV] : RelStIS base V t b1 b2 most L T1 T2) ha
  have hsz := hks.2.2.1 a
  obtain ⟨n, hn⟩ : ∃ n, (lk T1 a).length = n := ⟨_, rfl⟩
  rw [hn] at HC hsz
  have HN := Lib.hid (And.intro hn hks)
  have HA := Lib.hid (And.intro ha hb)
  have c0 := blk_cell hR.blk 0
  have c1 := blk_cell hR.blk 1
  have c2 := blk_cell hR.blk 2
  have c3 := blk_cell hR.blk 3
  clear HH hR hX hd hks hn ha hb
  go_enter Tryz.func34, Tryz.ntmps34
  go_wp2_with fail
  refine HHas.out.mono ?_
  rintro e w1 ⟨rfl, q, rfl⟩
  have same : ∀ W : World, W.heap = w.heap → Fr (fun _ => False) w W → ∀ e, (((a, b) ∈ L ∧ e = .returned (.int .i64 6)) ∨ ((a, b) ∉ L ∧ (∀ xs : List (List UInt8), xs.Pairwise (· < ·) → (∀ x, x ∈ xs ↔ (a, x) ∈ L) → most ≤ xs.length) ∧ e = .returned (.int .i64 7))) → AddRIS base t X most L a b w e W := by
    intro W hW hf e he
    obtain ⟨hR, hX, hd⟩ := H.out
    have hAt : RelAtIS base W t X most L := ⟨b1, b2, T1, T2, hR.same fun _ _ => by rw [hW], hX⟩
    refine ⟨X, fun j hj => .inl hj, hf.mono fun _ _ e => e.elim, ?_⟩
    rcases he with ⟨h1, rfl⟩ | ⟨h1, h2, rfl⟩
    · exact .inl ⟨h1, rfl, hAt⟩
    · exact .inr (.inl ⟨h1, h2, rfl, hAt⟩)
  have HS := Lib.hid same
  clear same
  cases d with
  | true =>
    go_wp2_with fail
    go_ret
    exact HS.out (w.drewN q) rfl ((Fr.refl _ w).drewN q) _ (.inl ⟨by simpa using H.out.2.2, rfl⟩)
  | false =>
    have hnot : (a, b) ∉ L := by simpa using H.out.2.2
    have HNot := Lib.hid hnot
    clear hnot
    go_wp2_with fail
    obtain ⟨W1, hW1⟩ : ∃ W1, w.drewN q = W1 := ⟨_, rfl⟩
    have e0 : W1.cell? ⟨t, 0, none⟩ = some (.int .i64 most) := by rw [← hW1]; exact c0
    have e2 : W1.cell? ⟨t, 2, none⟩ = some (.map (some b1)) := by rw [← hW1]; exact c2
    have hh : W1.heap = w.heap := by rw [← hW1]; rfl
    have HH := Lib.hid (And.intro hW1 hh)
    rw [hW1]
    clear c0 c1 c2 c3 hW1 hh
    by_cases hmost : most ≤ (n : Int)
    · have q1 : decide (most ≤ (n : Int)) = true := by simp; omega
      go_quiet ((go_at_call 37; exact Calls.quiet_of_same (HC.out _ HH.out.2)))
      go_wp2_with fail
      go_ret
      refine HS.out (W1.drewN nq) HH.out.2 (by rw [← HH.out.1]; exact ((Fr.refl _ w).drewN q).drewN nq) _ (.inr ⟨HNot.out, fun xs hx1 hx2 => ?_, rfl⟩)
      have e := up_extS hx1 (lkUpIS H.out.1.m1 a) fun x => (hx2 x).trans (H.out.1.h1 a x).symm
      rw [e, HN.out.1]; exact hmost
    · have q1 : decide (most ≤ (n : Int)) = false := by simp; omega
      go_quiet ((go_at_call 37; exact Calls.quiet_of_same (HC.out _ HH.out.2)))
      obtain ⟨V, hV⟩ : ∃ V, W1.drewN nq = V := ⟨_, rfl⟩
      rw [hV]
      have v2 : V.cell? ⟨t, 2, none⟩ = some (.map (some b1)) := by rw [← hV]; exact e2
      have hVh : V.heap = w.heap := by rw [← hV]; exact HH.out.2
      have hVf : Fr (fun _ => False) w V := by rw [← hV, ← HH.out.1]; exact ((Fr.refl _ w).drewN q).drewN nq
      have hRV : RelStIS base V t b1 b2 most L T1 T2 := H.out.1.same fun _ _ => by rw [hVh]
      have hbV : base ≤ V.heap.size := by rw [hVh]; exact hbw
      have HF := Lib.hid (fillIS hRV.m1 hbV HA.out.1 b (Nat.le_trans HN.out.2.1 (by omega)) (Nat.le_trans (HN.out.2.2.2.1 a) (by omega)))
      have HV := Lib.hid (And.intro hRV (And.intro hVh (And.intro hVf hbV)))
      clear hV e0 e2 hVh hVf hRV hbV
      go_wp2_with fail
      refine HF.out.mono ?_
      rintro e w3 ⟨rfl, hP1⟩
      obtain ⟨hRV, hVh, hVf, hbV⟩ := HV.out
      obtain ⟨T1', p1, p2, p3, p4, p5, p6⟩ := id hP1
      have hb3 := p4.blk hRV.blk hRV.t1
      have c3 := blk_cell hb3 3
      have m2 : MapStSI base w3 b2 T2 := mapStSI_fr hRV.m2 p4 fun j hj e => hRV.ap j e hj
      have HF2 := Lib.hid (fillSI m2 (Nat.le_trans hbV p4.size) HA.out.2 a (Nat.le_trans HN.out.2.2.1 (by omega)) (Nat.le_trans (HN.out.2.2.2.2 b) (by omega)))
      have HP := Lib.hid (And.intro hP1 (And.intro hb3 m2))
      clear hP1 p1 p2 p3 p4 p5 p6 hb3 m2 hRV hVh hVf hbV v2
      go_wp2_with fail
      refine HF2.out.mono ?_
      rintro e w4 ⟨rfl, hP2⟩
      obtain ⟨hRV, hVh, hVf, hbV⟩ := HV.out
      obtain ⟨hP1, hb3, m2⟩ := HP.out
      obtain ⟨T2', q1', q2, q3, q4, q5, q6⟩ := id hP2
      have hb4 := q4.blk hb3 hRV.t2
      have c1 := blk_cell hb4 1
      have f1 := blk_free hb4 1
      obtain ⟨X', hat, hx', hfr⟩ := add_stIS hRV HNot.out hP1 hP2
      have hl1 : ¬ 9223372036854775807 < (L.length : Int) + 1 := by omega
      have hl2 : (L.length : Int) ≤ 100000 := by omega
      have hl3 : 0 ≤ (L.length : Int) := by omega
      have HE : Hid (AddRIS base t X most L a b w (.returned (.int .i64 0)) (w4.setCell ⟨t, 1, none⟩ (.int .i64 ((L.length : Int) + 1)))) := by
        have hX := H.out.2.1
        refine ⟨X', fun j hj => ?_, ?_, .inr (.inr ⟨HNot.out, fun xs hx1 hx2 => ?_, rfl, hat⟩)⟩
        · rcases hx' j hj with e | e
          · exact .inl ((hX j).2 e)
          · exact .inr (by rw [← hVh]; exact e)
        · exact (hVf.mono fun _ _ e => e.elim : Fr X w V).trans3 hfr fun j _ e => (hX j).2 e
        · have e := up_extS hx1 (lkUpIS H.out.1.m1 a) fun x => (hx2 x).trans (H.out.1.h1 a x).symm
          rw [e, HN.out.1]; omega
      clear hP1 hb3 m2 hP2 q1' q2 q3 q4 q5 q6 hb4 hat hx' hfr hRV hVh hVf hbV
      go_wp2_with fail
      go_ret
      exact HE.out
end Go.Proofs.YtnoeblnljfnecaaGreatDoor
end
section
/- Layer 11: a relation of ints and strings: Remove; nil ones. -/
namespace Go.Proofs.YtnoeblnljfnecaaGreatDoor
set_option linter.unusedVariables false
set_option linter.unusedSimpArgs false
open Go Go.RowKit Go.Maps Go.Lib

def lessLIS (L : List ((Int) × (List UInt8))) (a : Int) (b : List UInt8) : List ((Int) × (List UInt8)) := L.filter fun p => decide (p ≠ (a, b))
theorem lessMemIS {L : List ((Int) × (List UInt8))} {a : Int} {b : List UInt8} {p : (Int) × (List UInt8)} : p ∈ lessLIS L a b ↔ p ∈ L ∧ p ≠ (a, b) := by unfold lessLIS; rw [List.mem_filter]; simp
theorem lessNotIS {L : List ((Int) × (List UInt8))} {a : Int} {b : List UInt8} (h : (a, b) ∉ L) : lessLIS L a b = L := by
  unfold lessLIS
  rw [List.filter_eq_self]
  intro p hp
  simp only [decide_eq_true_eq]
  exact fun e => h (e ▸ hp)
theorem lessLenIS {L : List ((Int) × (List UInt8))} {a : Int} {b : List UInt8} (hn : L.Nodup) (h : (a, b) ∈ L) : (lessLIS L a b).length + 1 = L.length := by
  induction L with
  | nil => cases h
  | cons x r ih =>
    rw [List.nodup_cons] at hn
    unfold lessLIS at ih ⊢
    by_cases e : x = (a, b)
    · subst e
      rw [List.filter_cons_of_neg (by simp)]
      have := lessNotIS hn.1
      unfold lessLIS at this
      rw [this, List.length_cons]
    · rw [List.filter_cons_of_pos (by simpa using e), List.length_cons, List.length_cons]
      rcases List.mem_cons.1 h with h | h
      · exact absurd h.symm e
      · have := ih hn.2 h; omega
theorem rem_stIS {base : Nat} {w w1 w2 : World} {t b1 b2 : Nat} {most : Int} {L : List ((Int) × (List UInt8))} {T1 : List ((Int) × SetE (List UInt8))} {T2 : List ((List UInt8) × SetE (Int))} (h : RelStIS base w t b1 b2 most L T1 T2)
    {a : Int} {b : List UInt8} (hm : (a, b) ∈ L) (h1 : PutPIS base b1 T1 a (delIS (lk T1 a) b) w w1) (h2 : PutPSI base b2 T2 b (delI (lk T2 b) a) w1 w2) :
    ∃ X', RelAtIS base (w2.setCell ⟨t, 1, none⟩ (.int .i64 ((L.length : Int) - 1))) t X' most (lessLIS L a b) ∧ (∀ j, X' j → (j = t ∨ BlP b1 T1 j ∨ BlP b2 T2 j) ∨ w.heap.size ≤ j) ∧ Fr (fun j => j = t ∨ BlP b1 T1 j ∨ BlP b2 T2 j) w (w2.setCell ⟨t, 1, none⟩ (.int .i64 ((L.length : Int) - 1))) := by
  have hlen := lessLenIS h.nd hm
  obtain ⟨T1', p1, p2, p3, p4, p5, p6⟩ := h1
  obtain ⟨T2', q1, q2, q3, q4, q5, q6⟩ := h2
  have hz := p4.size
  have l1 : ∀ j, BlP b1 T1 j → j < w.heap.size := fun j hj => (blPIS_lt h.m1 hj).2
  have l2 : ∀ j, BlP b2 T2 j → j < w.heap.size := fun j hj => (blPSI_lt h.m2 hj).2
  have l1' : ∀ j, BlP b1 T1' j → j < w1.heap.size := fun j hj => (blPIS_lt p1 hj).2
  have lt := blk_lt h.blk
  have sep : ∀ j, BlP b1 T1' j → ¬ BlP b2 T2' j := fun j hj hj2 => by
    rcases p5 j hj with e | e
    · rcases q5 j hj2 with e2 | e2
      · exact h.ap j e e2
      · have := l1 j e; omega
    · rcases q5 j hj2 with e2 | e2
      · have := l2 j e2; omega
      · have := l1' j hj; omega
  have t1' : ¬ BlP b1 T1' t := fun e => by
    rcases p5 t e with e | e
    · exact h.t1 e
    · omega
  have t2' : ¬ BlP b2 T2' t := fun e => by
    rcases q5 t e with e | e
    · exact h.t2 e
    · omega
  have m1 : MapStIS base w2 b1 T1' := mapStIS_fr p1 q4 fun j hj e => by
    rcases p5 j hj with e1 | e1
    · exact h.ap j e1 e
    · have := l2 j e; omega
  have fc : Fr (fun j => j = t) w2 (w2.setCell ⟨t, 1, none⟩ (.int .i64 ((L.length : Int) - 1))) := Fr.setCell (X := fun j => j = t) (Fr.refl _ w2) _ rfl _
  have hb2 : w2.heap[t]? = some (.cells #[.int .i64 most, .int .i64 L.length, .map (some b1), .map (some b2)] 85 (0, 0)) := q4.blk (p4.blk h.blk h.t1) h.t2
  refine ⟨fun j => j = t ∨ BlP b1 T1' j ∨ BlP b2 T2' j, ⟨b1, b2, T1', T2', ⟨h.le, ?_, mapStIS_fr m1 fc fun j hj e => t1' (e ▸ hj), mapStSI_fr q1 fc fun j hj e => t2' (e ▸ hj), p3 h.n1, q3 h.n2, sep, t1', t2', fun a' b' => ?_, fun a' b' => ?_, ?_⟩, fun j => Iff.rfl⟩, fun j hj => ?_, ?_⟩
  · have := blk_set hb2 1 (.int .i64 ((L.length : Int) - 1))
    rw [this, show ((lessLIS L a b).length : Int) = (L.length : Int) - 1 by omega]
    rfl
  · rw [p2, lessMemIS]
    by_cases e : a' = a
    · subst e
      rw [if_pos rfl, delI_memS (lkUpIS h.m1 a'), h.h1]
      simp
    · rw [if_neg e, h.h1]
      simp [e]
  · rw [q2, lessMemIS]
    by_cases e : b' = b
    · subst e
      rw [if_pos rfl, delI_mem (lkUpSI h.m2 b'), h.h2]
      simp
    · rw [if_neg e, h.h2]
      simp [e]
  · exact h.nd.sublist List.filter_sublist
  · rcases hj with rfl | hj | hj
    · exact .inl (.inl rfl)
    · rcases p5 j hj with e | e
      · exact .inl (.inr (.inl e))
      · exact .inr e
    · rcases q5 j hj with e | e
      · exact .inl (.inr (.inr e))
      · exact .inr (by omega)
  · exact ((p4.mono fun j _ e => .inr (.inl e) : Fr (fun j => j = t ∨ BlP b1 T1 j ∨ BlP b2 T2 j) w w1).trans3 q4 fun j _ e => .inr (.inr e)).trans3 fc fun j _ e => .inl e
/-- what Remove does -/
def RemRIS (base t : Nat) (X : Nat → Prop) (most : Int) (L : List ((Int) × (List UInt8))) (a : Int) (b : List UInt8) (w : World) (e : Ending) (w' : World) : Prop :=
  e = .returned (.bool (decide ((a, b) ∈ L))) ∧ ∃ X', (∀ j, X' j → X j ∨ w.heap.size ≤ j) ∧ Fr X w w' ∧ RelAtIS base w' t X' most (lessLIS L a b)
set_option maxRecDepth 100000 in
set_option maxHeartbeats 4000000 in
theorem relRemIS {base : Nat} {w : World} {t : Nat} {X : Nat → Prop} {most : Int} {L : List ((Int) × (List UInt8))} (h : RelAtIS base w t X most L) (hbw : base ≤ w.heap.size) (hL : L.length ≤ 90000) {a : Int} (ha : OkKIS a) {b : List UInt8} (hb : OkKSI b) :
    Calls Tryz.prog 31 #[.pointer (some ⟨t, 0, none⟩), .int .i64 a, .string (bs b)] w (RemRIS base t X most L a b w) := by
  obtain ⟨b1, b2, T1, T2, hR, hX⟩ := h
  have HH := relHasIS hR (by omega) ha b
  have hks := hR.keys
  have H := Lib.hid (And.intro hR hX)
  unfold RemRIS
  by_cases hd : (a, b) ∈ L
  · rw [decide_eq_true hd] at HH ⊢
    have HHas := Lib.hid HH
    have HA := Lib.hid (And.intro hks (And.intro ha hb))
    have HD := Lib.hid hd
    clear HH hR hX hks ha hb hd
    have hone : 1 ≤ L.length := List.length_pos_of_mem HD.out
    go_enter Tryz.func31, Tryz.ntmps31
    go_wp2_with fail
    refine HHas.out.mono ?_
    rintro e w1 ⟨rfl, q, rfl⟩
    obtain ⟨V, hV⟩ : ∃ V, w.drewN q = V := ⟨_, rfl⟩
    rw [hV]
    have hVh : V.heap = w.heap := by rw [← hV]; rfl
    have hVf : Fr (fun _ => False) w V := by rw [← hV]; exact (Fr.refl _ w).drewN q
    have hRV : RelStIS base V t b1 b2 most L T1 T2 := H.out.1.same fun _ _ => by rw [hVh]
    have hbV : base ≤ V.heap.size := by rw [hVh]; exact hbw
    have v2 := blk_cell hRV.blk 2
    obtain ⟨e1, hl1, hx1⟩ := lkHasIS ((hRV.h1 a b).2 HD.out)
    obtain ⟨e2, hl2, hx2⟩ := lkHasSI ((hRV.h2 a b).2 HD.out)
    have HF := Lib.hid (emptyIS hRV.m1 hbV HA.out.2.1 b hl1 (by rw [hx1]; exact Nat.le_trans (HA.out.1.2.2.1 a) (by omega)))
    have HV := Lib.hid (And.intro hRV (And.intro hVh (And.intro hVf (And.intro hbV (And.intro hl2 hx2)))))
    clear hV hVh hVf hRV hbV hl1 hx1 hl2 hx2
    go_wp2_with fail
    refine HF.out.mono ?_
    rintro e w3 ⟨rfl, hP1⟩
    obtain ⟨hRV, hVh, hVf, hbV, hl2, hx2⟩ := HV.out
    obtain ⟨T1', p1, p2, p3, p4, p5, p6⟩ := id hP1
    have hb3 := p4.blk hRV.blk hRV.t1
    have c3 := blk_cell hb3 3
    have m2 : MapStSI base w3 b2 T2 := mapStSI_fr hRV.m2 p4 fun j hj e => hRV.ap j e hj
    have HF2 := Lib.hid (emptySI m2 (Nat.le_trans hbV p4.size) HA.out.2.2 a hl2 (by rw [hx2]; exact Nat.le_trans (HA.out.1.2.2.2 b) (by omega)))
    have HP := Lib.hid (And.intro hP1 (And.intro hb3 m2))
    clear hP1 p1 p2 p3 p4 p5 p6 hb3 m2 hRV hVh hVf hbV v2 hl2 hx2
    go_wp2_with fail
    refine HF2.out.mono ?_
    rintro e w4 ⟨rfl, hP2⟩
    obtain ⟨hRV, hVh, hVf, hbV, hl2, hx2⟩ := HV.out
    obtain ⟨hP1, hb3, m2⟩ := HP.out
    obtain ⟨T2', q1', q2, q3, q4, q5, q6⟩ := id hP2
    have hb4 := q4.blk hb3 hRV.t2
    have c1 := blk_cell hb4 1
    have f1 := blk_free hb4 1
    obtain ⟨X', hat, hx', hfr⟩ := rem_stIS hRV HD.out hP1 hP2
    have hl2 : (L.length : Int) ≤ 100000 := by omega
    have hl3 : 1 ≤ (L.length : Int) := by omega
    have HE : Hid (RemRIS base t X most L a b w (.returned (.bool true)) (w4.setCell ⟨t, 1, none⟩ (.int .i64 ((L.length : Int) - 1)))) := by
      have hX := H.out.2
      refine ⟨by rw [decide_eq_true HD.out], X', fun j hj => ?_, ?_, hat⟩
      · rcases hx' j hj with e | e
        · exact .inl ((hX j).2 e)
        · exact .inr (by rw [← hVh]; exact e)
      · exact (hVf.mono fun _ _ e => e.elim : Fr X w V).trans3 hfr fun j _ e => (hX j).2 e
    clear hP1 hb3 m2 hP2 q1' q2 q3 q4 q5 q6 hb4 hat hx' hfr hRV hVh hVf hbV hx2
    go_wp2_with fail
    go_ret
    exact ⟨rfl, HE.out.2⟩
  · rw [decide_eq_false hd] at HH ⊢
    have HHas := Lib.hid HH
    have HD := Lib.hid hd
    clear HH hR hX hks ha hb hd
    go_enter Tryz.func31, Tryz.ntmps31
    go_wp2_with fail
    refine HHas.out.mono ?_
    rintro e w1 ⟨rfl, q, rfl⟩
    go_wp2_with fail
    go_ret
    refine ⟨rfl, X, fun j hj => .inl hj, (Fr.refl X w).drewN q, ?_⟩
    rw [lessNotIS HD.out]
    exact ⟨b1, b2, T1, T2, H.out.1.same fun _ _ => rfl, H.out.2⟩
/-- a nil relation -/
theorem rightsNilIS (a : Int) (w : World) : Calls Tryz.prog 49 #[.pointer none, .int .i64 a] w fun e w' => e = .returned (.pointer none) ∧ w' = w := by
  go_enter Tryz.func49, Tryz.ntmps49
  go_wp2_with fail
  go_ret
  exact ⟨rfl, rfl⟩
theorem relHasNilIS (a : Int) (b : List UInt8) (w : World) : Calls Tryz.prog 38 #[.pointer none, .int .i64 a, .string (bs b)] w fun e w' => e = .returned (.bool false) ∧ w' = w := by
  have HR := Lib.hid (rightsNilIS a w)
  have HS := Lib.hid (set_has_nilS b w)
  go_enter Tryz.func38, Tryz.ntmps38
  go_wp2_with fail
  refine HR.out.mono ?_
  rintro e w1 ⟨rfl, rfl⟩
  go_wp2_with fail
  refine HS.out.mono ?_
  rintro e w2 ⟨rfl, rfl⟩
  go_wp2_with fail
  go_ret
  exact ⟨rfl, rfl⟩
theorem relCountNilIS (a : Int) (w : World) : Calls Tryz.prog 37 #[.pointer none, .int .i64 a] w fun e w' => e = .returned (.int .i64 0) ∧ w' = w := by
  have HR := Lib.hid (rightsNilIS a w)
  have HS := Lib.hid (set_len_nilS w)
  go_enter Tryz.func37, Tryz.ntmps37
  go_wp2_with fail
  refine HR.out.mono ?_
  rintro e w1 ⟨rfl, rfl⟩
  go_wp2_with fail
  refine HS.out.mono ?_
  rintro e w2 ⟨rfl, rfl⟩
  go_wp2_with fail
  go_ret
  exact ⟨rfl, rfl⟩

theorem relAddNilIS (a : Int) (b : List UInt8) (w : World) : Calls Tryz.prog 34 #[.pointer none, .int .i64 a, .string (bs b)] w fun e w' => e = .returned (.int .i64 1) ∧ w' = w := by
  go_enter Tryz.func34, Tryz.ntmps34
  go_wp2_with fail
  go_ret
  exact ⟨rfl, rfl⟩
theorem relRemNilIS (a : Int) (b : List UInt8) (w : World) : Calls Tryz.prog 31 #[.pointer none, .int .i64 a, .string (bs b)] w fun e w' => e = .returned (.bool false) ∧ w' = w := by
  have HR := Lib.hid (relHasNilIS a b w)
  go_enter Tryz.func31, Tryz.ntmps31
  go_wp2_with fail
  refine HR.out.mono ?_
  rintro e w1 ⟨rfl, rfl⟩
  go_wp2_with fail
  go_ret
  exact ⟨rfl, rfl⟩
theorem relOfNilIS (a : Int) (w : World) : Calls Tryz.prog 32 #[.pointer none, .int .i64 a] w (AllPS [] w) := by
  have HR := Lib.hid (rightsNilIS a w)
  have HA := Lib.hid (set_all_nilS w)
  go_enter Tryz.func32, Tryz.ntmps32
  go_wp2_with fail
  refine HR.out.mono ?_
  rintro e w1 ⟨rfl, rfl⟩
  go_wp2_with fail
  refine HA.out.mono ?_
  rintro e w2 ⟨⟨F, rfl, h4⟩, h5⟩
  have H2 := Lib.hid (And.intro h4 h5)
  clear h4 h5
  go_wp2_with fail
  go_ret
  exact ⟨⟨_, rfl, H2.out.1⟩, H2.out.2⟩
theorem relByNilIS (b : List UInt8) (w : World) : Calls Tryz.prog 54 #[.pointer none, .string (bs b)] w (AllP [] w) := by
  have HA := Lib.hid (set_all_nil w)
  go_enter Tryz.func54, Tryz.ntmps54
  go_wp2_with fail
  refine HA.out.mono ?_
  rintro e w2 ⟨⟨F, rfl, h4⟩, h5⟩
  have H2 := Lib.hid (And.intro h4 h5)
  clear h4 h5
  go_wp2_with fail
  go_ret
  exact ⟨⟨_, rfl, H2.out.1⟩, H2.out.2⟩
end Go.Proofs.YtnoeblnljfnecaaGreatDoor
end
section
/- Layer 11: a relation of ints and strings: in words of its pairs alone. -/
namespace Go.Proofs.YtnoeblnljfnecaaGreatDoor
set_option linter.unusedVariables false
set_option linter.unusedSimpArgs false
open Go Go.RowKit Go.Maps Go.Lib

theorem AddRIS.ok {base t : Nat} {X : Nat → Prop} {most : Int} {L : List ((Int) × (List UInt8))} {a : Int} {b : List UInt8} {w : World} {e : Ending} {w' : World} (h : AddRIS base t X most L a b w e w') (hn : (a, b) ∉ L) (xs : List (List UInt8)) (h1 : xs.Pairwise (· < ·)) (h2 : ∀ x, x ∈ xs ↔ (a, x) ∈ L) (hl : (xs.length : Int) < most) :
    e = .returned (.int .i64 0) ∧ ∃ X', (∀ j, X' j → X j ∨ w.heap.size ≤ j) ∧ Fr X w w' ∧ RelAtIS base w' t X' most (L ++ [(a, b)]) := by
  obtain ⟨X', p1, p2, ⟨q1, _⟩ | ⟨_, q2, _⟩ | ⟨_, _, q3, q4⟩⟩ := h
  · exact absurd q1 hn
  · have := q2 xs h1 h2; omega
  · exact ⟨q3, X', p1, p2, q4⟩
/-- whatever Add does -/
theorem AddRIS.any {base t : Nat} {X : Nat → Prop} {most : Int} {L : List ((Int) × (List UInt8))} {a : Int} {b : List UInt8} {w : World} {e : Ending} {w' : World} (h : AddRIS base t X most L a b w e w') :
    ∃ X' c L', e = .returned (.int .i64 c) ∧ (∀ j, X' j → X j ∨ w.heap.size ≤ j) ∧ Fr X w w' ∧ RelAtIS base w' t X' most L' ∧ (L' = L ∧ (c = 6 ∧ (a, b) ∈ L ∨ c = 7 ∧ (a, b) ∉ L ∧ (∀ xs : List (List UInt8), xs.Pairwise (· < ·) → (∀ x, x ∈ xs ↔ (a, x) ∈ L) → most ≤ xs.length)) ∨
      L' = L ++ [(a, b)] ∧ c = 0 ∧ (a, b) ∉ L ∧ (∀ xs : List (List UInt8), xs.Pairwise (· < ·) → (∀ x, x ∈ xs ↔ (a, x) ∈ L) → (xs.length : Int) < most)) := by
  obtain ⟨X', p1, p2, ⟨q1, q3, q4⟩ | ⟨q1, q2, q3, q4⟩ | ⟨q1, q2, q3, q4⟩⟩ := h
  · exact ⟨X', 6, L, q3, p1, p2, q4, .inl ⟨rfl, .inl ⟨rfl, q1⟩⟩⟩
  · exact ⟨X', 7, L, q3, p1, p2, q4, .inl ⟨rfl, .inr ⟨rfl, q1, q2⟩⟩⟩
  · exact ⟨X', 0, _, q3, p1, p2, q4, .inr ⟨rfl, rfl, q1, q2⟩⟩
section
variable {base : Nat} {w : World} {t : Nat} {X : Nat → Prop} {most : Int} {L : List ((Int) × (List UInt8))}
theorem ofAtIS (h : RelAtIS base w t X most L) (hL : L.length ≤ 100000) {a : Int} (ha : OkKIS a) : ∃ xs : List (List UInt8), xs.Pairwise (· < ·) ∧ (∀ b, b ∈ xs ↔ (a, b) ∈ L) ∧ xs.length ≤ L.length ∧ ∀ V, Fr (fun _ => False) w V → Calls Tryz.prog 32 #[.pointer (some ⟨t, 0, none⟩), .int .i64 a] V (AllPS xs V) := by
  obtain ⟨b1, b2, T1, T2, h1, h2⟩ := h
  exact ⟨lk T1 a, lkUpIS h1.m1 a, h1.h1 a, h1.keys.2.2.1 a, fun V hV => relOfIS (h1.same fun j hj => hV.block j (h1.lt hj).2 fun e => e : RelStIS base V t b1 b2 most L T1 T2) hL ha⟩
theorem byAtIS (h : RelAtIS base w t X most L) (hL : L.length ≤ 100000) {b : List UInt8} (hb : OkKSI b) : ∃ xs : List (Int), xs.Pairwise (· < ·) ∧ (∀ a, a ∈ xs ↔ (a, b) ∈ L) ∧ xs.length ≤ L.length ∧ ∀ V, Fr (fun _ => False) w V → Calls Tryz.prog 54 #[.pointer (some ⟨t, 0, none⟩), .string (bs b)] V (AllP xs V) := by
  obtain ⟨b1, b2, T1, T2, h1, h2⟩ := h
  exact ⟨lk T2 b, lkUpSI h1.m2 b, fun a => h1.h2 a b, h1.keys.2.2.2 b, fun V hV => relByIS (h1.same fun j hj => hV.block j (h1.lt hj).2 fun e => e : RelStIS base V t b1 b2 most L T1 T2) hL hb⟩
theorem hasAtIS (h : RelAtIS base w t X most L) (hL : L.length ≤ 100000) {a : Int} (ha : OkKIS a) (b : List UInt8) : Calls Tryz.prog 38 #[.pointer (some ⟨t, 0, none⟩), .int .i64 a, .string (bs b)] w fun e w' => e = .returned (.bool (decide ((a, b) ∈ L))) ∧ ∃ q, w' = w.drewN q := by
  obtain ⟨b1, b2, T1, T2, h1, h2⟩ := h
  exact relHasIS h1 hL ha b
theorem countAtIS (h : RelAtIS base w t X most L) {a : Int} (ha : OkKIS a) {xs : List (List UInt8)} (hx : xs.Pairwise (· < ·)) (hm : ∀ b, b ∈ xs ↔ (a, b) ∈ L) : Calls Tryz.prog 37 #[.pointer (some ⟨t, 0, none⟩), .int .i64 a] w fun e w' => e = .returned (.int .i64 xs.length) ∧ w' = w := by
  obtain ⟨b1, b2, T1, T2, h1, h2⟩ := h
  have e := up_extS hx (lkUpIS h1.m1 a) fun b => (hm b).trans (h1.h1 a b).symm
  rw [e]
  exact relCountIS h1 ha

theorem RelAtIS.below {w' : World} (h : RelAtIS base w t X most L) (hb : Below w.heap.size w w') : RelAtIS base w' t X most L := h.fr (Fr.of_below (X := fun _ => False) hb) fun _ _ e => e
end
end Go.Proofs.YtnoeblnljfnecaaGreatDoor
end
section
/- Rows of numbers of the call's own: slices.Values as a function that tells, in words of what is owned. -/
namespace Go.Proofs.YtnoeblnljfnecaaGreatDoor
set_option linter.unusedVariables false
set_option linter.unusedSimpArgs false
open Go Go.RowKit Go.Lib Go.Sort Go.Shelf
attribute [local go_sem] Oper.semAt_some

theorem reads_ownI {base : Nat} {w : World} {A : Option Addr} {n c : Nat} {xs : List Int} (h : OwnI base w (.slice A n c) xs) : ReadsI w A xs := fun h0 => by
  rcases h.2 with ⟨h1, h2⟩ | ⟨g, cap, cur, h1, h3, h4, h5, _, h6, h7⟩
  · omega
  · injection h1 with q1 q2 q3
    subst q1
    rw [Nat.mul_one] at h7
    refine ⟨g, 0, rfl, blk_lt h4, fun j hj => ?_⟩
    rw [Nat.zero_add, blk_cell h4 j, own_get (base := 0) (w := w) (cap := 0) h4 h7 j hj]
set_option maxRecDepth 100000 in
set_option maxHeartbeats 4000000 in
theorem values_seqI (base B : Nat) (v : Value) (xs : List Int) (w : World) (hxs : xs.length ≤ 1000000) (hb : w.heap[B]? = some (.cells #[v] 41 (0, 0))) (hr : OwnI base w v xs) :
    SeqF Tryz.prog 102 #[.pointer (some ⟨B, 0, none⟩)] encI (rowY B v) xs w := fun l J Jx X V hs hYl hX hJ hJx hY h0 => by
  have hbV := (hs B (.inl rfl)).trans hb
  have hrV : OwnI base V v xs := own_kept hr fun g hg => hs g (.inr hg)
  obtain ⟨A, c, rfl⟩ := row_slice hr
  have c0 : V.cell? ⟨B, 0, none⟩ = some (.slice A xs.length c) := (blk_cell hbV 0).trans rfl
  have HR := Lib.hid (reads_ownI hrV)
  have HO := Lib.hid hrV
  have HY := Lib.hid hY
  have HX := Lib.hid hX
  have h00 : Hid (∃ X1, GrowX X X1 V V ∧ Fr X V V ∧ J [] X1 V) := ⟨X, GrowX.refl fun k hk => (hX k hk).1, Fr.refl _ _, h0⟩
  clear hb hr hs hrV hbV hY hX h0 hJ hJx hYl
  refine (callsIn_wide (n := 20)).1 ?_
  refine callsIn_of_wp Tryz.func102 rfl trivial ?_ rfl
  simp only [Tryz.ntmps102, List.size_toArray, List.length_cons, List.length_nil, Nat.reduceAdd, Nat.reduceSub, Array.replicate_succ, Array.replicate_zero, List.push_toArray, List.append_toArray, List.nil_append, List.cons_append]
  gi_wp2
  gi_loopw [7] (fun c1 wr => ∃ k : Nat, c1 = .int .i64 k ∧ k ≤ xs.length ∧ Hid (∃ X1, GrowX X X1 V wr ∧ Fr X V wr ∧ J (xs.take k) X1 wr)) (fun c1 _ => xs.length - (Go.RowKit.intOf c1).toNat)
  case atStart => exact ⟨0, rfl, Nat.zero_le _, h00⟩
  case round =>
    obtain ⟨k, rfl, hk, HJ⟩ := hrel
    clear h00
    obtain ⟨X1, hg1, hf1, hj1⟩ := HJ.out
    by_cases hlt : k < xs.length
    · obtain ⟨g, o, rfl, hg, hcell⟩ := HR.out (by omega)
      obtain ⟨x, hx⟩ : ∃ x, xs[k] = x := ⟨_, rfl⟩
      have hgY : rowY B (.slice (some ⟨g, o, none⟩) xs.length c) g := by
        rcases HO.out.2 with ⟨e, _⟩ | ⟨g2, cap, cur, e, _⟩
        · cases e
        · cases e; exact .inr rfl
      have e0 : wr.cell? ⟨g, o + k, none⟩ = some (.int .i64 x) := by
        rw [hf1.cell (p := ⟨g, o + k, none⟩) hg (fun e => (HX.out g e).2 hgY), hcell k hlt, hx]
      have hsp : xs.take k ++ x :: xs.drop (k + 1) = xs := by rw [← hx, ← List.drop_eq_getElem_cons hlt]; exact List.take_append_drop k xs
      have htk : xs.take (k + 1) = xs.take k ++ [x] := by rw [List.take_succ_eq_append_getElem hlt, hx]
      have hyy := HY.out (xs.take k) x (xs.drop (k + 1)) X1 wr hsp hg1 hj1 hf1
      obtain ⟨fn, tmps, assign, body, hy, hR⟩ := hyy
      dsimp only [encI] at hy
      have HT := Lib.hid (And.intro htk (And.intro hsp (And.intro hg1 hf1)))
      clear hx htk hsp hg hcell hg1 hf1 hj1 hgY
      gi_wp2_with fail
      refine (round_wide (.inl rfl) hR).mono ?_
      rintro e W3 ⟨X2, g2, f2, (⟨rfl, hJ3⟩ | ⟨rfl, hJx3⟩)⟩
      · obtain ⟨htk, hsp, hg1, hf1⟩ := HT.out
        have hN : Hid (∃ X1, GrowX X X1 V W3 ∧ Fr X V W3 ∧ J (xs.take (k + 1)) X1 W3) := ⟨X2, hg1.trans g2 hf1.size, hf1.trans3 f2 fun k hk e => (hg1 k e).2 hk, by rw [htk]; exact hJ3⟩
        clear htk hsp hg1 hf1 g2 f2 hJ3 hR hy
        gi_wp2_with fail
        go_roundw
        case rel => exact ⟨k + 1, by go_num, by omega, hN⟩
        case measure => simp [Go.RowKit.intOf]; omega
      · clear hR hy
        gi_wp2_with fail
        refine bodyPost_ret (results_none rfl _ _ _) rfl ?_
        obtain ⟨htk, hsp, hg1, hf1⟩ := HT.out
        exact ⟨⟨_, rfl⟩, X2, hg1.trans g2 hf1.size, hf1.trans3 f2 fun k hk e => (hg1 k e).2 hk, .inr ⟨_, xs.drop (k + 1), by simpa using hsp, hJx3⟩⟩
    · obtain rfl : k = xs.length := by omega
      rw [List.take_length] at hj1
      have HQ := Lib.hid (And.intro hg1 (And.intro hf1 hj1))
      clear hg1 hf1 hj1
      gi_wp2_with fail
      go_end0
      obtain ⟨hg1, hf1, hj1⟩ := HQ.out
      exact ⟨⟨_, rfl⟩, X1, hg1, hf1, .inl hj1⟩
theorem tellsI_tale {base : Nat} {w : World} {F : Value} {xs : List Int} (h : TaleAt base w F xs) (hl : xs.length ≤ 1000000) : ∃ Y, (∀ b, Y b → base ≤ b) ∧ TellsF Tryz.prog encI w F Y xs := by
  obtain ⟨B, v, h1, rfl, h3, h4, h5⟩ := h
  refine ⟨rowY B v, fun b hb => ?_, _, _, rfl, values_seqI base B v xs w hl h3 h5, fun b hb => ?_, enters_of Tryz.func102 (by kernel_rfl) rfl⟩
  · rcases hb with rfl | hb
    · exact h1
    · exact (h5.lt b hb).1
  · rcases hb with rfl | hb
    · exact blk_lt h3
    · exact (h5.lt b hb).2
end Go.Proofs.YtnoeblnljfnecaaGreatDoor
end
section
/- Layer 11: a relation of numbers and texts: Drop. -/
namespace Go.Proofs.YtnoeblnljfnecaaGreatDoor
set_option linter.unusedVariables false
set_option linter.unusedSimpArgs false
open Go Go.RowKit Go.Maps Go.Lib
attribute [local go_sem] Oper.semAt_some

def dropL (L : List (Int × List UInt8)) (a : Int) (pre : List (List UInt8)) : List (Int × List UInt8) := pre.foldl (fun M b => lessLIS M a b) L
theorem dropL_snoc (L : List (Int × List UInt8)) (a : Int) (pre : List (List UInt8)) (x : List UInt8) : dropL L a (pre ++ [x]) = lessLIS (dropL L a pre) a x := by unfold dropL; rw [List.foldl_append]; rfl
theorem dropL_filter (a : Int) : ∀ (pre : List (List UInt8)) (L : List (Int × List UInt8)), dropL L a pre = L.filter fun p => decide (∀ b ∈ pre, p ≠ (a, b))
  | [], L => by
    unfold dropL
    rw [List.foldl_nil, List.filter_eq_self.2]
    intro p _; simp
  | x :: r, L => by
    show dropL (lessLIS L a x) a r = _
    rw [dropL_filter a r]
    unfold lessLIS
    rw [List.filter_filter]
    refine List.filter_congr fun p _ => ?_
    simp [Bool.and_comm]
theorem dropL_all {L : List (Int × List UInt8)} {a : Int} {xs : List (List UInt8)} (h : ∀ b, b ∈ xs ↔ (a, b) ∈ L) : dropL L a xs = L.filter fun p => decide (p.1 ≠ a) := by
  rw [dropL_filter]
  refine List.filter_congr fun p hp => ?_
  rw [decide_eq_decide]
  constructor
  · intro h1 e
    exact h1 p.2 ((h p.2).2 (by rw [← e]; exact hp)) (by rw [← e])
  · intro h1 b _ e
    exact h1 (by rw [e])
theorem dropL_len (L : List (Int × List UInt8)) (a : Int) (pre : List (List UInt8)) : (dropL L a pre).length ≤ L.length := by rw [dropL_filter]; exact List.length_filter_le _ _
theorem dropL_ok {L : List (Int × List UInt8)} {a : Int} {pre : List (List UInt8)} (h : L.Nodup) : (dropL L a pre).Nodup := by rw [dropL_filter]; exact h.sublist List.filter_sublist
/-- how far Drop has come -/
def DropJ (base B t : Nat) (a : Int) (most : Int) (L : List (Int × List UInt8)) (pre : List (List UInt8)) (X : Nat → Prop) (W : World) : Prop :=
  W.heap[B]? = some (.cells #[.pointer (some ⟨t, 0, none⟩)] 60 (0, 0)) ∧ W.heap[B + 1]? = some (.cells #[.int .i64 a] 3 (0, 0)) ∧ W.heap[B + 2]? = some (.cells #[.int .i64 (pre.length : Int)] 3 (0, 0)) ∧
    ∃ Xr, RelAtIS base W t Xr most (dropL L a pre) ∧ (∀ k, Xr k → k ≠ B ∧ k ≠ B + 1 ∧ k ≠ B + 2) ∧ ∀ k, X k ↔ (k = B ∨ k = B + 1 ∨ k = B + 2 ∨ Xr k)
theorem dropJ_stays (base B t : Nat) (a : Int) (most : Int) (L : List (Int × List UInt8)) : Stays (DropJ base B t a most L) := fun pre X V V' ⟨h1, h2, h3, Xr, h4, h5, h6⟩ hl hf =>
  ⟨hf.blk h1 (fun e => e ((h6 _).2 (.inl rfl))), hf.blk h2 (fun e => e ((h6 _).2 (.inr (.inl rfl)))), hf.blk h3 (fun e => e ((h6 _).2 (.inr (.inr (.inl rfl))))), Xr, h4.fr hf fun j hj e => e ((h6 j).2 (.inr (.inr (.inr hj)))), h5, h6⟩
/-- what Drop does -/
def DropR (base t : Nat) (X : Nat → Prop) (most : Int) (L : List (Int × List UInt8)) (a : Int) (w : World) (e : Ending) (w' : World) : Prop :=
  ∃ X' : Nat → Prop, ∃ xs : List (List UInt8), xs.Pairwise (· < ·) ∧ (∀ b, b ∈ xs ↔ (a, b) ∈ L) ∧ e = .returned (.int .i64 (xs.length : Nat)) ∧ (∀ j, X' j → X j ∨ w.heap.size ≤ j) ∧ Fr X w w' ∧ RelAtIS base w' t X' most (L.filter fun p => decide (p.1 ≠ a))
set_option maxRecDepth 100000 in
set_option maxHeartbeats 16000000 in
theorem relDrop {base : Nat} {w : World} {t : Nat} {X : Nat → Prop} {most : Int} {L : List (Int × List UInt8)} (h : RelAtIS base w t X most L) (hbw : base ≤ w.heap.size) (hL : L.length ≤ 90000) {a : Int} (ha : OkKIS a) (hok : ∀ p ∈ L, OkKSI p.2) :
    Calls Tryz.prog 33 #[.pointer (some ⟨t, 0, none⟩), .int .i64 a] w (DropR base t X most L a w) := by
  obtain ⟨b1, b2, T1, T2, hR, hX⟩ := h
  have hup := lkUpIS hR.m1 a
  have hmem := hR.h1 a
  have hlk := hR.keys.2.2.1 a
  obtain ⟨w1, hw1⟩ : ∃ w1, ((w.alloc (Obj.cells #[Value.pointer (some ⟨t, 0, none⟩)] 60)).alloc (Obj.cells #[Value.int .i64 a] 3)).alloc (Obj.cells #[Value.int .i64 0] 3) = w1 := ⟨_, rfl⟩
  have f1 : Fr (fun _ => False) w w1 := by rw [← hw1]; exact (((Fr.refl _ w).alloc _).alloc _).alloc _
  have z1 : w1.heap.size = w.heap.size + 3 := by rw [← hw1]; simp
  obtain ⟨B, hB⟩ : ∃ B, w.heap.size = B := ⟨_, rfl⟩
  rw [hB] at z1
  have k0 : w1.heap[B]? = some (.cells #[.pointer (some ⟨t, 0, none⟩)] 60 (0, 0)) := by rw [← hw1, ← hB]; exact blk_alloc (blk_alloc (heap_alloc_new w _) _) _
  have k1 : w1.heap[B + 1]? = some (.cells #[.int .i64 a] 3 (0, 0)) := by rw [← hw1, ← hB]; exact blk_alloc (heap_alloc2_new w _ _) _
  have k2 : w1.heap[B + 2]? = some (.cells #[.int .i64 0] 3 (0, 0)) := by
    rw [← hw1, ← hB]
    have := heap_alloc2_new (w.alloc (Obj.cells #[Value.pointer (some ⟨t, 0, none⟩)] 60)) (Obj.cells #[Value.int .i64 a] 3) (Obj.cells #[Value.int .i64 0] 3)
    rwa [World.size_alloc] at this
  have hR1 : RelStIS base w1 t b1 b2 most L T1 T2 := hR.same fun j hj => f1.block j (hR.lt hj).2 fun e => e
  have hAt1 : RelAtIS base w1 t X most L := ⟨b1, b2, T1, T2, hR1, hX⟩
  have hXl : ∀ j, X j → j < B := fun j hj => by rw [← hB]; exact (hR.lt ((hX j).1 hj)).2
  have HOf := Lib.hid (relOfIS hR1 (by omega) ha)
  obtain ⟨xs, hxs⟩ : ∃ xs, lk T1 a = xs := ⟨_, rfl⟩
  rw [hxs] at HOf hup hmem hlk
  have c0 := blk_cell k0 0
  have c1 := blk_cell k1 0
  have HW := Lib.hid hw1
  have H := Lib.hid (And.intro f1 (And.intro z1 (And.intro k0 (And.intro k1 (And.intro k2 (And.intro hup (And.intro hmem (And.intro hlk (And.intro hXl (And.intro hAt1 (And.intro ha hok)))))))))))
  have HBB := Lib.hid hB
  clear hw1 f1 z1 k0 k1 k2 hR1 hAt1 hXl hxs hup hmem hlk hR hX ha hok hB
  refine (callsIn_wide (n := 30)).1 ?_
  refine callsIn_of_wp_marks Tryz.func33 rfl trivial ?_ rfl
  simp only [Tryz.ntmps33, List.size_toArray, List.length_cons, List.length_nil, Nat.reduceAdd, Nat.reduceSub, Array.replicate_succ, Array.replicate_zero, List.push_toArray, List.append_toArray, List.nil_append, List.cons_append]
  gi_wp2_with fail
  rw [HW.out, HBB.out]
  refine ⟨trivial, (calls_wide (.inl rfl) HOf.out).mono ?_⟩
  rintro e w2 ⟨⟨F, rfl, hT⟩, hb2⟩
  obtain ⟨f1, z1, k0, k1, k2, hup, hmem, hlk, hXl, hAt, ha, hok⟩ := H.out
  have f2 : Fr (fun _ => False) w1 w2 := Fr.of_below hb2
  have hxl : xs.length ≤ 100000 := by omega
  obtain ⟨Y, hYb, gf, lb, rfl, hseq, hYl, heg⟩ := tellsT_tale (show TaleT w1.heap.size w2 F xs from hT) (by omega)
  have q0 := f2.blk k0 fun e => e
  have q1 := f2.blk k1 fun e => e
  have q2 := f2.blk k2 fun e => e
  have hAt2 := hAt.fr f2 fun _ _ e => e
  have z2 := f2.size
  have K := Lib.hid (And.intro f2 (And.intro hYb (And.intro hseq (And.intro hYl (And.intro heg (And.intro q0 (And.intro q1 (And.intro q2 (And.intro hAt2 z2)))))))))
  clear f1 z1 k0 k1 k2 hup hmem hlk hXl hAt ha hok f2 hb2 hT hYb hseq hYl heg q0 q1 q2 hAt2 z2 c0 c1
  gi_wp2_with fail
  obtain ⟨f1, z1, k0, k1, k2, hup, hmem, hlk, hXl, hAt, ha, hok⟩ := H.out
  obtain ⟨f2, hYb, hseq, hYl, heg, q0, q1, q2, hAt2, z2⟩ := K.out
  have hB := HBB.out
  have hnd := hAt2.nodup
  refine wpIn_rangeF (X := fun k => k = B ∨ k = B + 1 ∨ k = B + 2 ∨ X k) (Y := Y) (xs := xs) (encs := encL) (gf := gf) (lb := lb) (DropJ base B t a most L) (fun _ _ _ _ => False)
    rfl hseq (fun k hk => ⟨by rcases hk with e | e | e | e <;> first | omega | (have := hXl k e; omega), fun e => by have := hYb k e; rcases hk with e | e | e | e <;> first | omega | (have := hXl k e; omega)⟩) hYl (by omega) heg (fun _ => rfl)
    (dropJ_stays _ _ _ _ _ _) (fun c s X1 V1 V2 h => h.elim) ⟨q0, q1, q2, X, hAt2, fun k hk => by have := hXl k hk; omega, fun k => Iff.rfl⟩ ?round ?done (fun _ _ _ _ _ _ _ _ _ _ _ h => h.elim)
  case round =>
    rintro l pre x r X1 V KK rb hl2 hpx hI hG2 hxl hF hlV hK
    dsimp only [encL]
    have HK := Lib.hid hK
    have HV := Lib.hid (And.intro hpx (And.intro hI (And.intro hG2 (And.intro hxl (And.intro hF (And.intro hlV hl2))))))
    clear hK hpx hI hG2 hxl hF hlV hl2 f1 z1 k0 k1 k2 hup hmem hlk hXl hAt ha hok f2 hYb hseq hYl heg q0 q1 q2 hAt2 z2 hB hnd
    gi_wp2_with fail
    refine HK.out _ _ (Fr.refl _ _) fun Vb hfb hzb hsb hrb => ?_
    clear HK KK
    obtain ⟨hpx, ⟨j0, j1, j2, Xr, hr, hrn, hX1⟩, hG2, hxl, hF, hlV, hl2⟩ := HV.out
    obtain ⟨f1, z1, k0, k1, k2, hup, hmem, hlk, hXl, hAt, ha, hok⟩ := H.out
    obtain ⟨f2, hYb, hseq, hYl, heg, q0, q1, q2, hAt2, z2⟩ := K.out
    have hlX : ∀ k, X1 k → k ≠ l := fun k hk e => hxl (e ▸ hk)
    have v0 := hfb.blk j0 (hlX _ ((hX1 _).2 (.inl rfl)))
    have v1 := hfb.blk j1 (hlX _ ((hX1 _).2 (.inr (.inl rfl))))
    have v2 := hfb.blk j2 (hlX _ ((hX1 _).2 (.inr (.inr (.inl rfl)))))
    have hrb2 := hr.fr hfb fun j hj => hlX j ((hX1 _).2 (.inr (.inr (.inr hj))))
    have hbb : base ≤ Vb.heap.size := by have := hF.size; have := f1.size; have := hfb.size; omega
    have hxin : (a, x) ∈ dropL L a pre := by
      rw [dropL_filter, List.mem_filter]
      have hxx : x ∈ xs := by rw [← hpx]; simp
      refine ⟨(hmem x).1 hxx, ?_⟩
      simp only [decide_eq_true_eq]
      intro b hb e
      have hnd : xs.Nodup := up_nodupS hup
      rw [← hpx, List.nodup_append] at hnd
      exact hnd.2.2 b hb x (List.mem_cons_self ..) (Prod.mk.inj e).2.symm
    have hkx : OkKSI x := hok (a, x) ((hmem x).1 (by rw [← hpx]; simp))
    have HRm := Lib.hid (relRemIS hrb2 hbb (Nat.le_trans (dropL_len L a pre) hL) ha hkx)
    unfold RemRIS at HRm
    rw [decide_eq_true hxin] at HRm
    have cc0 := blk_cell v0 0
    have cc1 := blk_cell v1 0
    have hpl : pre.length < xs.length := by
      have := congrArg List.length hpx
      simp at this; omega
    have HU := Lib.hid (And.intro v0 (And.intro v1 (And.intro v2 (And.intro hfb (And.intro hzb (And.intro hrb (And.intro hrn hX1)))))))
    have HP := Lib.hid hpl
    clear hpx j0 j1 j2 hr hrn hX1 hG2 hxl hF hlV hl2 f1 z1 k0 k1 k2 hup hmem hlk hXl hAt ha hok f2 hYb hseq hYl heg q0 q1 q2 hAt2 z2 hlX v0 v1 v2 hfb hzb hrb hrb2 hbb hxin hkx hsb hpl
    gi_wp2_with fail
    refine ⟨trivial, (calls_wide (.inr ⟨l, rfl⟩) HRm.out).mono ?_⟩
    rintro e W6 ⟨rfl, Xr', hx6, f6, h6⟩
    obtain ⟨v0, v1, v2, hfb, hzb, hrb, hrn, hX1⟩ := HU.out
    have u0 := f6.blk v0 (fun e => (hrn _ e).1 rfl)
    have u1 := f6.blk v1 (fun e => (hrn _ e).2.1 rfl)
    have u2 := f6.blk v2 (fun e => (hrn _ e).2.2 rfl)
    have cc2 := blk_cell u2 0
    have dd2 := blk_free u2 0
    have m0 : (pre.length : Int) ≤ 100000 := by have := HP.out; omega
    have HS := Lib.hid (And.intro u0 (And.intro u1 (And.intro u2 (And.intro hx6 (And.intro f6 h6)))))
    clear v0 v1 v2 hfb hzb hrb hrn hX1 u0 u1 u2 hx6 f6 h6 cc0 cc1
    gi_wp2_with fail
    obtain ⟨v0, v1, v2, hfb, hzb, hrb, hrn, hX1⟩ := HU.out
    obtain ⟨u0, u1, u2, hx6, f6, h6⟩ := HS.out
    obtain ⟨hpx, _, hG2, hxl, hF, hlV, hl2⟩ := HV.out
    have hs7 : Fr (fun k => k = B + 2) W6 (W6.setCell ⟨B + 1 + 1, 0, none⟩ (.int .i64 ((pre.length : Int) + 1))) := Fr.setCell (X := fun k => k = B + 2) (Fr.refl _ W6) ⟨B + 1 + 1, 0, none⟩ rfl _
    have hf7 : Fr X1 Vb (W6.setCell ⟨B + 1 + 1, 0, none⟩ (.int .i64 ((pre.length : Int) + 1))) := (f6.mono (Y := X1) fun k _ e => (hX1 k).2 (.inr (.inr (.inr e)))).trans3 hs7 fun k _ e => (hX1 k).2 (.inr (.inr (.inl e)))
    have hlb := blk_lt v2
    have hXr' : ∀ k, Xr' k → k ≠ B ∧ k ≠ B + 1 ∧ k ≠ B + 2 := fun k hk => by
      rcases hx6 k hk with e | e
      · exact hrn k e
      · omega
    have hz7 := hs7.size
    have hz6 := f6.size
    have hzb2 := hfb.size
    refine ⟨fun k => k = B ∨ k = B + 1 ∨ k = B + 2 ∨ Xr' k, fun k hk => ⟨?_, fun hlt => ?_⟩, (hfb.mono (Y := fun k => k = l ∨ X1 k) fun k _ e => .inl e).trans3 hf7 fun k _ e => .inr e, hf7.blk hrb hxl, blk_other u0 _ (by show B ≠ B + 1 + 1; omega) _, blk_other u1 _ (by show B + 1 ≠ B + 1 + 1; omega) _, ?_, Xr', ?_, hXr', fun k => Iff.rfl⟩
    · rcases hk with rfl | rfl | rfl | hk
      · omega
      · omega
      · omega
      · have := (h6.lt hk).2; omega
    · rcases hk with rfl | rfl | rfl | hk
      · exact (hX1 _).2 (.inl rfl)
      · exact (hX1 _).2 (.inr (.inl rfl))
      · exact (hX1 _).2 (.inr (.inr (.inl rfl)))
      · rcases hx6 k hk with e | e
        · exact (hX1 _).2 (.inr (.inr (.inr e)))
        · omega
    · have := blk_set u2 0 (.int .i64 ((pre.length : Int) + 1))
      rw [List.length_append]
      exact this
    · rw [dropL_snoc]
      exact h6.fr hs7 fun j hj => (hXr' j hj).2.2
  case done =>
    rintro D X2 V hD hxD hG2 hF ⟨j0, j1, j2, Xr, hr, hrn, hX2⟩ hdef
    have cc2 := blk_cell j2 0
    have HQ := Lib.hid (And.intro hD (And.intro hxD (And.intro hG2 (And.intro hF (And.intro hr (And.intro hrn (And.intro hX2 hdef)))))))
    clear hD hxD hG2 hF hr hrn hX2 hdef j0 j1 j2 f1 z1 k0 k1 k2 hup hmem hlk hXl hAt ha hok f2 hYb hseq hYl heg q0 q1 q2 hAt2 z2 hB hnd
    gi_wp2_with fail
    obtain ⟨hD, hxD, hG2, hF, hr, hrn, hX2, hdef⟩ := HQ.out
    obtain ⟨f1, z1, k0, k1, k2, hup, hmem, hlk, hXl, hAt, ha, hok⟩ := H.out
    obtain ⟨f2, hYb, hseq, hYl, heg, q0, q1, q2, hAt2, z2⟩ := K.out
    have hB := HBB.out
    refine leaves_one D _ hdef fun w' hf => ⟨_, results_tmp rfl _ _ _, Xr, xs, hup, hmem, rfl, fun j hj => ?_, ?_, ?_⟩
    · by_cases e : j < w2.heap.size
      · rcases (hG2 j ((hX2 j).2 (.inr (.inr (.inr hj))))).2 e with e | e | e | e
        · exact absurd e (hrn j hj).1
        · exact absurd e (hrn j hj).2.1
        · exact absurd e (hrn j hj).2.2
        · exact .inl e
      · exact .inr (by omega)
    · refine (((f1.mono (Y := X) fun _ _ e => e.elim).trans3 f2 fun _ _ e => e.elim).trans3 hF fun k hk e => ?_).trans3 hf fun k hk e => ?_
      · rcases e with e | e | e | e
        · omega
        · omega
        · omega
        · exact e
      · omega
    · rw [← dropL_all hmem]
      exact hr.fr hf fun j hj e => hxD (e ▸ (hX2 j).2 (.inr (.inr (.inr hj))))
end Go.Proofs.YtnoeblnljfnecaaGreatDoor
end
section
/- fold.Byte, fold.turns, cmp.Compare of bytes and numbers: what each answers, for every argument. -/
namespace Go.Proofs.YtnoeblnljfnecaaGreatDoor
open Go.RowKit

/-- a byte, folded, as a number -/
def foldI (b : Int) : Int := if 65 ≤ b ∧ b ≤ 93 then b + 32 else if b = 126 then 94 else b
theorem foldI_up {b : Int} (h : 65 ≤ b) (h' : b ≤ 93) : foldI b = b + 32 := by rw [foldI, if_pos ⟨h, h'⟩]
theorem foldI_lo {b : Int} (h : b < 65) : foldI b = b := by rw [foldI, if_neg (by omega), if_neg (by omega)]
theorem foldI_hi {b : Int} (h : 93 < b) (h' : (b == 126) = false) : foldI b = b := by
  have := of_decide_eq_false h'
  rw [foldI, if_neg (by omega), if_neg (by omega)]
theorem foldI_bd (b : Int) (h0 : 0 ≤ b) (h1 : b ≤ 255) : 0 ≤ foldI b ∧ foldI b ≤ 255 := by
  unfold foldI; split
  · omega
  · split <;> omega

theorem byte_any (b : Int) (w : World) (h0 : 0 ≤ b) (h1 : b ≤ 255) :
    Calls Tryz.prog 46 #[.int .u8 b] w fun e w' => e = .returned (.int .u8 (foldI b)) ∧ w = w' := by
  by_cases ha : 65 ≤ b
  · by_cases hb : b ≤ 93
    · go_enter Tryz.func46, Tryz.ntmps46
      go_wp2
      go_ret
      exact ⟨ret_int (foldI_up ha hb).symm, rfl⟩
    · by_cases hc : b = 126
      · subst hc
        go_enter Tryz.func46, Tryz.ntmps46
        go_wp2
        go_ret
        exact ⟨ret_int (by simp [foldI]), rfl⟩
      · have hc' : (b == 126) = false := by simpa using hc
        go_enter Tryz.func46, Tryz.ntmps46
        go_wp2
        go_ret
        exact ⟨ret_int (foldI_hi (by omega) hc').symm, rfl⟩
  · have hc' : (b == 126) = false := by simp; omega
    go_enter Tryz.func46, Tryz.ntmps46
    go_wp2
    go_ret
    exact ⟨ret_int (foldI_lo (by omega)).symm, rfl⟩

theorem turns_any (b : Int) (w : World) (h0 : 0 ≤ b) (h1 : b ≤ 255) :
    Calls Tryz.prog 61 #[.int .u8 b] w fun e w' => e = .returned (.bool (foldI b != b)) ∧ w = w' := by
  go_enter Tryz.func61, Tryz.ntmps61
  go_wp2_with (go_at_call 46; refine (byte_any _ _ h0 h1).mono ?_; rintro e w' ⟨rfl, rfl⟩)
  go_ret
  exact ⟨rfl, rfl⟩

/-- what compares two numbers -/
def cmpI (a b : Int) : Int := if a < b then -1 else if b < a then 1 else 0
theorem cmpI_lt {a b : Int} (h : a < b) : cmpI a b = -1 := by rw [cmpI, if_pos h]
theorem cmpI_gt {a b : Int} (h : b < a) : cmpI a b = 1 := by rw [cmpI, if_neg (by omega), if_pos h]
theorem cmpI_eq {a b : Int} (h : a = b) : cmpI a b = 0 := by rw [cmpI, if_neg (by omega), if_neg (by omega)]
theorem cmpI_bd (a b : Int) : -1 ≤ cmpI a b ∧ cmpI a b ≤ 1 := by
  unfold cmpI; split
  · omega
  · split <;> omega



theorem cmpInt_any (a b : Int) (w : World) :
    Calls Tryz.prog 116 #[.int .i64 a, .int .i64 b] w fun e w' => e = .returned (.int .i64 (cmpI a b)) ∧ w = w' := by
  by_cases h : a < b
  · go_enter Tryz.func116, Tryz.ntmps116
    go_wp2
    go_ret
    exact ⟨ret_int (cmpI_lt h).symm, rfl⟩
  · by_cases h' : b < a
    · go_enter Tryz.func116, Tryz.ntmps116
      go_wp2
      go_ret
      exact ⟨ret_int (cmpI_gt h').symm, rfl⟩
    · go_enter Tryz.func116, Tryz.ntmps116
      go_wp2
      go_ret
      exact ⟨ret_int (cmpI_eq (by omega)).symm, rfl⟩
/-- a byte, folded -/
def foldB (b : UInt8) : UInt8 := if 65 ≤ b ∧ b ≤ 93 then b + 32 else if b = 126 then 94 else b
theorem foldB_nat (b : UInt8) : foldI (b.toNat : Int) = ((foldB b).toNat : Int) := by
  have hb := b.toNat_lt
  unfold foldB foldI
  by_cases h : 65 ≤ b ∧ b ≤ 93
  · rw [if_pos h]
    simp only [UInt8.le_iff_toNat_le] at h
    have e1 : (65 : UInt8).toNat = 65 := rfl
    have e2 : (93 : UInt8).toNat = 93 := rfl
    rw [e1, e2] at h
    rw [if_pos (by omega), UInt8.toNat_add]
    have e3 : (32 : UInt8).toNat = 32 := rfl
    omega
  · rw [if_neg h]
    simp only [UInt8.le_iff_toNat_le] at h
    have e1 : (65 : UInt8).toNat = 65 := rfl
    have e2 : (93 : UInt8).toNat = 93 := rfl
    rw [e1, e2] at h
    rw [if_neg (by omega)]
    by_cases h2 : b = 126
    · subst h2; rfl
    · rw [if_neg h2, if_neg]
      intro e
      apply h2
      apply UInt8.toNat_inj.mp
      have : (126 : UInt8).toNat = 126 := rfl
      omega
theorem byte_u8 (c : UInt8) (w : World) :
    Calls Tryz.prog 46 #[.int .u8 ↑c.toNat] w fun e w' => e = .returned (.int .u8 ↑(foldB c).toNat) ∧ w = w' :=
  (byte_any _ w (u8_bd c).1 (u8_bd c).2).mono fun _ _ h => by rw [foldB_nat] at h; exact h
theorem turns_u8 (c : UInt8) (w : World) :
    Calls Tryz.prog 61 #[.int .u8 ↑c.toNat] w fun e w' => e = .returned (.bool (foldB c != c)) ∧ w = w' :=
  (turns_any _ w (u8_bd c).1 (u8_bd c).2).mono fun _ _ h => by
    have e : (foldI (c.toNat : Int) != (c.toNat : Int)) = (foldB c != c) := by
      rw [foldB_nat, Bool.eq_iff_iff]
      simp only [bne_iff_ne, ne_eq]
      constructor
      · intro h1 h2; exact h1 (by rw [h2])
      · intro h1 h2; exact h1 (UInt8.toNat_inj.mp (by omega))
    rw [e] at h; exact h
end Go.Proofs.YtnoeblnljfnecaaGreatDoor
end
section
/- fold.Compare: which of two texts stands ahead. -/
namespace Go.Proofs.YtnoeblnljfnecaaGreatDoor
open Go.RowKit

def foldL (l : List UInt8) : List UInt8 := l.map foldB
@[simp] theorem foldL_nil : foldL [] = [] := rfl
@[simp] theorem foldL_cons (x : UInt8) (l : List UInt8) : foldL (x :: l) = foldB x :: foldL l := rfl
@[simp] theorem foldL_length (l : List UInt8) : (foldL l).length = l.length := by simp [foldL]
@[simp] theorem foldL_append (a b : List UInt8) : foldL (a ++ b) = foldL a ++ foldL b := by simp [foldL]

/-- which of two rows of bytes stands ahead -/
def cmpL : List UInt8 → List UInt8 → Int
  | [], [] => 0
  | [], _ :: _ => -1
  | _ :: _, [] => 1
  | x :: xs, y :: ys => if x.toNat < y.toNat then -1 else if y.toNat < x.toNat then 1 else cmpL xs ys

theorem ba_drop (s : ByteArray) (k : Nat) (h : k < s.size) : s.data.toList.drop k = s[k] :: s.data.toList.drop (k + 1) := by
  rw [List.drop_eq_getElem_cons (by simpa using h)]; rfl
theorem ba_drop_end (s : ByteArray) (k : Nat) (h : s.size ≤ k) : s.data.toList.drop k = [] := by
  rw [List.drop_eq_nil_iff]; simpa using h
theorem ba_take (s : ByteArray) (k : Nat) (h : k < s.size) : s.data.toList.take (k + 1) = s.data.toList.take k ++ [s[k]] := by
  rw [List.take_succ_eq_append_getElem (by simpa using h)]; rfl
theorem ba_len (s : ByteArray) : s.data.toList.length = s.size := by simp

/-- two texts, folded, from a place on -/
def cmpAt (a b : ByteArray) (k : Nat) : Int := cmpL (foldL (a.data.toList.drop k)) (foldL (b.data.toList.drop k))
theorem cmpAt_stop {a b : ByteArray} {k : Nat} (ha : k < a.size) (hb : k < b.size) (h : cmpI ↑(foldB a[k]).toNat ↑(foldB b[k]).toNat ≠ 0) :
    cmpI ↑(foldB a[k]).toNat ↑(foldB b[k]).toNat = cmpAt a b k := by
  unfold cmpAt
  rw [ba_drop a k ha, ba_drop b k hb]
  simp only [foldL_cons, cmpL]
  unfold cmpI at *
  split
  · rw [if_pos (by omega)]
  · rename_i h1
    rw [if_neg h1] at h
    split
    · rw [if_neg (by omega), if_pos (by omega)]
    · rename_i h2; rw [if_neg h2] at h; exact absurd rfl h
theorem cmpAt_step {a b : ByteArray} {k : Nat} (ha : k < a.size) (hb : k < b.size) (h : cmpI ↑(foldB a[k]).toNat ↑(foldB b[k]).toNat = 0) :
    cmpAt a b (k + 1) = cmpAt a b k := by
  unfold cmpAt
  rw [ba_drop a k ha, ba_drop b k hb]
  simp only [foldL_cons, cmpL]
  unfold cmpI at h
  split at h
  · cases h
  · split at h
    · cases h
    · rw [if_neg (by omega), if_neg (by omega)]
theorem cmpAt_end {a b : ByteArray} {k : Nat} (h : k = a.size ∨ k = b.size) (ha : k ≤ a.size) (hb : k ≤ b.size) : cmpI ↑a.size ↑b.size = cmpAt a b k := by
  unfold cmpAt
  by_cases h1 : k < a.size
  · rw [ba_drop a k h1, ba_drop_end b k (by omega), cmpI_gt (by omega)]; rfl
  · rw [ba_drop_end a k (by omega)]
    by_cases h2 : k < b.size
    · rw [ba_drop b k h2, cmpI_lt (by omega)]; rfl
    · rw [ba_drop_end b k (by omega), cmpI_eq (by omega)]; rfl





/-- what compares two texts, folded -/
def cmpF (a b : List UInt8) : Int := cmpL (foldL a) (foldL b)
end Go.Proofs.YtnoeblnljfnecaaGreatDoor
end
