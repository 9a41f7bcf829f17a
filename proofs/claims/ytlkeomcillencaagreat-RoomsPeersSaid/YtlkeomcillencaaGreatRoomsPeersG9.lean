/- Texts of this proof, one behind the other. -/
import Derived.Test.YtlkeomcillencaaGreatRoomsPeersG8
import Derived.Test.YtlkeomcillencaaGreatRoomsPeersG1
import Derived.Test.YtlkeomcillencaaGreatChecked
import Derived.Sort.Walk0
import Derived.Laws.Cover1
import Derived.LoopTactic
import Derived.Outline
import Derived.OwnWalk
import Derived.Laws.OwnMore
import Derived.Deep.LoopGhost
set_option linter.unusedVariables false
set_option linter.unusedSimpArgs false
section
/- Layer 11: a relation of ints and strings as it lies: New, rights, Has, Count, Len, Of, By. -/
namespace Go.Proofs.YtlkeomcillencaaGreat
open Go Go.RowKit Go.Maps Go.Lib

/-- a relation as it lies: its block, its maps, how many may be, the pairs as they came -/
structure RelStIS (base : Nat) (w : World) (t b1 b2 : Nat) (most : Int) (L : List ((Int) × (List UInt8))) (T1 : List ((Int) × SetE (List UInt8))) (T2 : List ((List UInt8) × SetE (Int))) : Prop where
  le : base ≤ t
  blk : w.heap[t]? = some (.cells #[.int .i64 most, .int .i64 L.length, .map (some b1), .map (some b2)] 124 (0, 0))
  m1 : MapStIS base w b1 T1
  m2 : MapStSI base w b2 T2
  n1 : NeTIS T1
  n2 : NeTSI T2
  ap : ∀ j, BlP b1 T1 j → ¬ BlP b2 T2 j
  t1 : ¬ BlP b1 T1 t
  t2 : ¬ BlP b2 T2 t
  h1 : ∀ a b, b ∈ lk T1 a ↔ (a, b) ∈ L
  h2 : ∀ a b, a ∈ lk T2 b ↔ (a, b) ∈ L
  nd : L.Nodup
theorem RelStIS.same {base : Nat} {w w' : World} {t b1 b2 : Nat} {most : Int} {L : List ((Int) × (List UInt8))} {T1 : List ((Int) × SetE (List UInt8))} {T2 : List ((List UInt8) × SetE (Int))} (h : RelStIS base w t b1 b2 most L T1 T2)
    (hs : ∀ j, (j = t ∨ BlP b1 T1 j ∨ BlP b2 T2 j) → w'.heap[j]? = w.heap[j]?) : RelStIS base w' t b1 b2 most L T1 T2 :=
  ⟨h.le, (hs t (.inl rfl)).trans h.blk, mapStIS_same h.m1 fun j hj => hs j (.inr (.inl hj)), mapStSI_same h.m2 fun j hj => hs j (.inr (.inr hj)), h.n1, h.n2, h.ap, h.t1, h.t2, h.h1, h.h2, h.nd⟩
theorem RelStIS.lt {base : Nat} {w : World} {t b1 b2 : Nat} {most : Int} {L : List ((Int) × (List UInt8))} {T1 : List ((Int) × SetE (List UInt8))} {T2 : List ((List UInt8) × SetE (Int))} (h : RelStIS base w t b1 b2 most L T1 T2)
    {j : Nat} (hj : j = t ∨ BlP b1 T1 j ∨ BlP b2 T2 j) : base ≤ j ∧ j < w.heap.size := by
  rcases hj with rfl | hj | hj
  · exact ⟨h.le, blk_lt h.blk⟩
  · exact blPIS_lt h.m1 hj
  · exact blPSI_lt h.m2 hj
theorem RelStIS.keys {base : Nat} {w : World} {t b1 b2 : Nat} {most : Int} {L : List ((Int) × (List UInt8))} {T1 : List ((Int) × SetE (List UInt8))} {T2 : List ((List UInt8) × SetE (Int))} (h : RelStIS base w t b1 b2 most L T1 T2) :
    T1.length ≤ L.length ∧ T2.length ≤ L.length ∧ (∀ a, (lk T1 a).length ≤ L.length) ∧ ∀ b, (lk T2 b).length ≤ L.length := by
  refine ⟨keys_le (mapStIS_nodup h.m1) h.n1 fun a b hb => (h.h1 a b).1 hb, ?_, fun a => lk_le (up_nodupS (lkUpIS h.m1 a)) fun b hb => (h.h1 a b).1 hb, fun b => ?_⟩
  · have := keys_le (L := L.map fun p => (p.2, p.1)) (mapStSI_nodup h.m2) h.n2 fun b a ha => List.mem_map.2 ⟨(a, b), (h.h2 a b).1 ha, rfl⟩
    simpa using this
  · have := lk_le (L := L.map fun p => (p.2, p.1)) (a := b) (up_nodup (lkUpSI h.m2 b)) fun a ha => List.mem_map.2 ⟨(a, b), (h.h2 a b).1 ha, rfl⟩
    simpa using this
section
variable {base : Nat} {w : World} {t b1 b2 : Nat} {most : Int} {L : List ((Int) × (List UInt8))} {T1 : List ((Int) × SetE (List UInt8))} {T2 : List ((List UInt8) × SetE (Int))}
set_option maxHeartbeats 1000000 in
theorem rightsIS (h : RelStIS base w t b1 b2 most L T1 T2) {a : Int} (ha : OkKIS a) :
    Calls Tryz.prog 74 #[.pointer (some ⟨t, 0, none⟩), .int .i64 a] w fun e w' => e = .returned (.pointer ((lookM T1 a).map fun e => ⟨e.s, 0, none⟩)) ∧ w' = w := by
  have c2 := blk_cell h.blk 2
  have hlook := mlookIS h.m1.2.1 ha
  rw [kp_look, Option.map_map] at hlook
  unfold kVIS at hlook
  obtain ⟨p, hp⟩ : ∃ p, Option.map ((fun s => (⟨s, 0, none⟩ : Addr)) ∘ fun x => x.s) (lookM T1 a) = p := ⟨_, rfl⟩
  rw [hp] at hlook
  have HP := Lib.hid hp
  clear hp h
  go_enter Tryz.func74, Tryz.ntmps74
  go_wp2_with fail
  go_ret
  exact ⟨by rw [← HP.out]; rfl, rfl⟩
theorem hasEqIS (h : RelStIS base w t b1 b2 most L T1 T2) (a : Int) (b : List UInt8) : (lk T1 a).contains b = decide ((a, b) ∈ L) := by
  rw [Bool.eq_iff_iff, List.contains_iff_mem, decide_eq_true_iff]
  exact h.h1 a b
set_option maxHeartbeats 1000000 in
theorem relHasIS (h : RelStIS base w t b1 b2 most L T1 T2) (hL : L.length ≤ 100000) {a : Int} (ha : OkKIS a) (b : List UInt8) :
    Calls Tryz.prog 65 #[.pointer (some ⟨t, 0, none⟩), .int .i64 a, .string (bs b)] w fun e w' => e = .returned (.bool (decide ((a, b) ∈ L))) ∧ ∃ q, w' = w.drewN q := by
  have hr := rightsIS h ha
  have hq := hasEqIS h a b
  have hk := (h.keys).2.2.1 a
  cases hl : lookM T1 a with
  | none =>
    rw [hl] at hr
    rw [lk_noneIS hl] at hq
    rw [← hq]
    have HS := Lib.hid (set_has_nilS b w)
    have HR := Lib.hid hr
    clear hr hq h hl
    go_enter Tryz.func65, Tryz.ntmps65
    go_wp2_with fail
    refine HR.out.mono ?_
    rintro e w1 ⟨rfl, rfl⟩
    go_wp2_with fail
    refine HS.out.mono ?_
    rintro e w2 ⟨rfl, rfl⟩
    go_wp2_with fail
    go_ret
    exact ⟨rfl, 0, rfl⟩
  | some e =>
    rw [hl] at hr
    rw [lk_someIS hl] at hq hk
    rw [← hq]
    have HS := Lib.hid (set_hasS (h.m1.2.2.1 _ (lookM_memP hl)).1 (by dsimp only []; omega) b)
    have HR := Lib.hid hr
    obtain ⟨es, eob, exs⟩ := e
    dsimp only [Option.map_some] at HR HS
    dsimp only []
    obtain ⟨d, hd⟩ : ∃ d, exs.contains b = d := ⟨_, rfl⟩
    rw [hd] at HS ⊢
    clear hr hq h hl hd
    go_enter Tryz.func65, Tryz.ntmps65
    go_wp2_with fail
    refine HR.out.mono ?_
    rintro e w1 ⟨rfl, rfl⟩
    go_wp2_with fail
    refine HS.out.mono ?_
    rintro e w2 ⟨rfl, q, rfl⟩
    go_wp2_with fail
    go_ret
    exact ⟨rfl, q, rfl⟩
set_option maxHeartbeats 1000000 in
theorem relCountIS (h : RelStIS base w t b1 b2 most L T1 T2) {a : Int} (ha : OkKIS a) :
    Calls Tryz.prog 56 #[.pointer (some ⟨t, 0, none⟩), .int .i64 a] w fun e w' => e = .returned (.int .i64 (lk T1 a).length) ∧ w' = w := by
  have hr := rightsIS h ha
  cases hl : lookM T1 a with
  | none =>
    rw [hl] at hr
    rw [lk_noneIS hl]
    have HS := Lib.hid (set_len_nilS w)
    have HR := Lib.hid hr
    clear hr h hl
    go_enter Tryz.func56, Tryz.ntmps56
    go_wp2_with fail
    refine HR.out.mono ?_
    rintro e w1 ⟨rfl, rfl⟩
    go_wp2_with fail
    refine HS.out.mono ?_
    rintro e w2 ⟨rfl, rfl⟩
    go_wp2_with fail
    go_ret
    exact ⟨rfl, rfl⟩
  | some e =>
    rw [hl] at hr
    rw [lk_someIS hl]
    have HS := Lib.hid (set_lenS (h.m1.2.2.1 _ (lookM_memP hl)).1)
    have HR := Lib.hid hr
    obtain ⟨es, eob, exs⟩ := e
    dsimp only [Option.map_some] at HR HS
    dsimp only []
    clear hr h hl
    go_enter Tryz.func56, Tryz.ntmps56
    go_wp2_with fail
    refine HR.out.mono ?_
    rintro e w1 ⟨rfl, rfl⟩
    go_wp2_with fail
    refine HS.out.mono ?_
    rintro e w2 ⟨rfl, rfl⟩
    go_wp2_with fail
    go_ret
    exact ⟨rfl, rfl⟩

set_option maxHeartbeats 1000000 in
theorem relOfIS (h : RelStIS base w t b1 b2 most L T1 T2) (hL : L.length ≤ 100000) {a : Int} (ha : OkKIS a) :
    Calls Tryz.prog 44 #[.pointer (some ⟨t, 0, none⟩), .int .i64 a] w (AllPS (lk T1 a) w) := by
  have hr := rightsIS h ha
  have hk := (h.keys).2.2.1 a
  have HR := Lib.hid hr
  have HA : Hid (Calls Tryz.prog 75 #[.pointer ((lookM T1 a).map fun e => ⟨e.s, 0, none⟩)] w (AllPS (lk T1 a) w)) := by
    cases hl : lookM T1 a with
    | none => rw [lk_noneIS hl]; exact set_all_nilS w
    | some e => rw [lk_someIS hl]; exact set_allS (h.m1.2.2.1 _ (lookM_memP hl)).1 (by rw [lk_someIS hl] at hk; exact Nat.le_trans hk (by omega))
  clear hr h
  obtain ⟨p, hp⟩ : ∃ p, (lookM T1 a).map (fun e => (⟨e.s, 0, none⟩ : Addr)) = p := ⟨_, rfl⟩
  rw [hp] at HR HA
  clear hp
  go_enter Tryz.func44, Tryz.ntmps44
  go_wp2_with fail
  refine HR.out.mono ?_
  rintro e w1 ⟨rfl, rfl⟩
  go_wp2_with fail
  refine HA.out.mono ?_
  intro e w2 h
  obtain ⟨⟨F, rfl, h4⟩, h5⟩ := h
  have H2 := Lib.hid (And.intro h4 h5)
  clear h4 h5
  go_wp2_with fail
  go_ret
  exact ⟨⟨_, rfl, H2.out.1⟩, H2.out.2⟩
set_option maxHeartbeats 1000000 in
theorem relByIS (h : RelStIS base w t b1 b2 most L T1 T2) (hL : L.length ≤ 100000) {b : List UInt8} (hb : OkKSI b) :
    Calls Tryz.prog 61 #[.pointer (some ⟨t, 0, none⟩), .string (bs b)] w (AllP (lk T2 b) w) := by
  have c3 := blk_cell h.blk 3
  have hlook := mlookSI h.m2.2.1 hb
  rw [kp_look, Option.map_map] at hlook
  unfold kVSI at hlook
  have hk := (h.keys).2.2.2 b
  have HA : Hid (Calls Tryz.prog 88 #[.pointer ((lookM T2 b).map fun e => ⟨e.s, 0, none⟩)] w (AllP (lk T2 b) w)) := by
    cases hl : lookM T2 b with
    | none => rw [lk_noneSI hl]; exact set_all_nil w
    | some e => rw [lk_someSI hl]; exact set_all (h.m2.2.2.1 _ (lookM_memP hl)).1 (by rw [lk_someSI hl] at hk; exact Nat.le_trans hk (by omega))
  obtain ⟨p, hp⟩ : ∃ p, Option.map ((fun s => (⟨s, 0, none⟩ : Addr)) ∘ fun x => x.s) (lookM T2 b) = p := ⟨_, rfl⟩
  rw [hp] at hlook
  have hp2 : (lookM T2 b).map (fun e => (⟨e.s, 0, none⟩ : Addr)) = p := hp
  rw [hp2] at HA
  clear hp hp2 h
  go_enter Tryz.func61, Tryz.ntmps61
  go_wp2_with fail
  refine HA.out.mono ?_
  intro e w2 h
  obtain ⟨⟨F, rfl, h4⟩, h5⟩ := h
  have H2 := Lib.hid (And.intro h4 h5)
  clear h4 h5
  go_wp2_with fail
  go_ret
  exact ⟨⟨_, rfl, H2.out.1⟩, H2.out.2⟩
end
end Go.Proofs.YtlkeomcillencaaGreat
end
section
/- Layer 11: a relation of ints and strings: New, Add, Remove; nil ones. -/
namespace Go.Proofs.YtlkeomcillencaaGreat
open Go Go.RowKit Go.Maps Go.Lib

/-- a relation, in words of the blocks that it has -/
def RelAtIS (base : Nat) (w : World) (t : Nat) (X : Nat → Prop) (most : Int) (L : List ((Int) × (List UInt8))) : Prop := ∃ b1 b2 T1 T2, RelStIS base w t b1 b2 most L T1 T2 ∧ ∀ j, X j ↔ (j = t ∨ BlP b1 T1 j ∨ BlP b2 T2 j)
theorem RelAtIS.same {base : Nat} {w w' : World} {t : Nat} {X : Nat → Prop} {most : Int} {L : List ((Int) × (List UInt8))} (h : RelAtIS base w t X most L) (hs : ∀ j, X j → w'.heap[j]? = w.heap[j]?) : RelAtIS base w' t X most L := by
  obtain ⟨b1, b2, T1, T2, h1, h2⟩ := h
  exact ⟨b1, b2, T1, T2, h1.same fun j hj => hs j ((h2 j).2 hj), h2⟩
theorem RelAtIS.lt {base : Nat} {w : World} {t : Nat} {X : Nat → Prop} {most : Int} {L : List ((Int) × (List UInt8))} (h : RelAtIS base w t X most L) {j : Nat} (hj : X j) : base ≤ j ∧ j < w.heap.size := by
  obtain ⟨b1, b2, T1, T2, h1, h2⟩ := h
  exact h1.lt ((h2 j).1 hj)
theorem RelAtIS.fr {base : Nat} {w w' : World} {t : Nat} {X Z : Nat → Prop} {most : Int} {L : List ((Int) × (List UInt8))} (h : RelAtIS base w t X most L) (hf : Fr Z w w') (hz : ∀ j, X j → ¬ Z j) : RelAtIS base w' t X most L := h.same fun j hj => hf.block j (h.lt hj).2 (hz j hj)
theorem RelAtIS.own {base : Nat} {w : World} {t : Nat} {X : Nat → Prop} {most : Int} {L : List ((Int) × (List UInt8))} (h : RelAtIS base w t X most L) : X t := by
  obtain ⟨b1, b2, T1, T2, h1, h2⟩ := h
  exact (h2 t).2 (.inl rfl)
theorem RelAtIS.nodup {base : Nat} {w : World} {t : Nat} {X : Nat → Prop} {most : Int} {L : List ((Int) × (List UInt8))} (h : RelAtIS base w t X most L) : L.Nodup := by
  obtain ⟨b1, b2, T1, T2, h1, h2⟩ := h
  exact h1.nd
/-- a new one -/
def NewRIS (most : Int) (w : World) (e : Ending) (w' : World) : Prop := ∃ t X, e = .returned (.tuple #[.pointer (some ⟨t, 0, none⟩), .int .i64 0]) ∧ RelAtIS w.heap.size w' t X most [] ∧ (∀ j, X j → w.heap.size ≤ j) ∧ Below w.heap.size w w'
set_option maxHeartbeats 1000000 in
theorem relNewIS {most : Int} (hm : 0 ≤ most ∧ most ≤ 100000) (w : World) : Calls Tryz.prog 37 #[.int .i64 most] w (NewRIS most w) := by
  have hmm := @run_makeMap Tryz.prog
  have p1 : decide (most < 0) = false := by simp; omega
  have p2 : decide (100000 < most) = false := by simp; omega
  have p3 : ¬ most < 0 := by omega
  have p4 : ¬ 100000 < most := by omega
  go_enter Tryz.func37, Tryz.ntmps37
  go_wp2_with fail
  go_ret2
  have z1 : (w.alloc (Obj.map #[] 0)).heap.size = w.heap.size + 1 := World.size_alloc _ _
  have z2 : ((w.alloc (Obj.map #[] 0)).alloc (Obj.map #[] 0)).heap.size = w.heap.size + 2 := by rw [World.size_alloc, World.size_alloc]
  refine ⟨w.heap.size + 2, fun j => j = w.heap.size + 2 ∨ j = w.heap.size ∨ j = w.heap.size + 1, rfl, ⟨w.heap.size, w.heap.size + 1, [], [], ⟨by omega, ?_, ?_, ?_, (fun p hp => by cases hp), (fun p hp => by cases hp), ?_, ?_, ?_, ?_, ?_, List.nodup_nil⟩, fun j => ?_⟩, fun j hj => by omega, (((Below.refl _ _).alloc (Nat.le_refl _) _).alloc (by omega) _).alloc (by omega) _⟩
  · have := heap_alloc_new ((w.alloc (Obj.map #[] 0)).alloc (Obj.map #[] 0)) (Obj.cells #[Value.int .i64 most, Value.int .i64 0, Value.map (some w.heap.size), Value.map (some (w.heap.size + 1))] 124)
    rwa [z2] at this
  · exact made_stIS (Nat.le_refl _) ⟨0, ((World.ownsMap_made w _ _ _).alloc _).alloc _, rfl⟩
  · have := ((World.ownsMap_made (P := Tryz.prog) (w.alloc (Obj.map #[] 0)) 9 ptrE).alloc (Obj.cells #[Value.int .i64 most, Value.int .i64 0, Value.map (some w.heap.size), Value.map (some (w.heap.size + 1))] 124))
    rw [z1] at this
    exact made_stSI (by omega) ⟨0, this, rfl⟩
  · rintro j (rfl | ⟨p, hp, _⟩) (h | ⟨p, hp, _⟩)
    · omega
    · cases hp
    · cases hp
    · cases hp
  · rintro (h | ⟨p, hp, _⟩)
    · omega
    · cases hp
  · rintro (h | ⟨p, hp, _⟩)
    · omega
    · cases hp
  · intro a b; simp [lk, lookM]
  · intro a b; simp [lk, lookM]
  · simp [BlP]
set_option maxHeartbeats 1000000 in
theorem relNewBadIS {most : Int} (hm : most < 0 ∨ 100000 < most) (w : World) : Calls Tryz.prog 37 #[.int .i64 most] w fun e w' => e = .returned (.tuple #[.pointer none, .int .i64 2]) ∧ w' = w := by
  by_cases h0 : most < 0
  · have p1 : decide (most < 0) = true := by simp; omega
    go_enter Tryz.func37, Tryz.ntmps37
    go_wp2_with fail
    go_ret2
    exact ⟨rfl, rfl⟩
  · have p1 : decide (most < 0) = false := by simp; omega
    have p2 : decide (100000 < most) = true := by simp; omega
    have p4 : 100000 < most := by omega
    go_enter Tryz.func37, Tryz.ntmps37
    go_wp2_with fail
    go_ret2
    exact ⟨rfl, rfl⟩
theorem insMemIS (xs : List (List UInt8)) (x y : List UInt8) : y ∈ insIS xs x ↔ y = x ∨ y ∈ xs := insI_memS xs x y
/-- a pair came: the state of it -/
theorem add_stIS {base : Nat} {w w1 w2 : World} {t b1 b2 : Nat} {most : Int} {L : List ((Int) × (List UInt8))} {T1 : List ((Int) × SetE (List UInt8))} {T2 : List ((List UInt8) × SetE (Int))} (h : RelStIS base w t b1 b2 most L T1 T2)
    {a : Int} {b : List UInt8} (hn : (a, b) ∉ L) (h1 : PutPIS base b1 T1 a (insIS (lk T1 a) b) w w1) (h2 : PutPSI base b2 T2 b (insI (lk T2 b) a) w1 w2) :
    ∃ X', RelAtIS base (w2.setCell ⟨t, 1, none⟩ (.int .i64 ((L.length : Int) + 1))) t X' most (L ++ [(a, b)]) ∧ (∀ j, X' j → (j = t ∨ BlP b1 T1 j ∨ BlP b2 T2 j) ∨ w.heap.size ≤ j) ∧ Fr (fun j => j = t ∨ BlP b1 T1 j ∨ BlP b2 T2 j) w (w2.setCell ⟨t, 1, none⟩ (.int .i64 ((L.length : Int) + 1))) := by
  obtain ⟨T1', p1, p2, p3, p4, p5, p6⟩ := h1
  obtain ⟨T2', q1, q2, q3, q4, q5, q6⟩ := h2
  have hz := p4.size
  have l1 : ∀ j, BlP b1 T1 j → j < w.heap.size := fun j hj => (blPIS_lt h.m1 hj).2
  have l2 : ∀ j, BlP b2 T2 j → j < w.heap.size := fun j hj => (blPSI_lt h.m2 hj).2
  have l1' : ∀ j, BlP b1 T1' j → j < w1.heap.size := fun j hj => (blPIS_lt p1 hj).2
  have lt := blk_lt h.blk
  have sep : ∀ j, BlP b1 T1' j → ¬ BlP b2 T2' j := fun j hj hj2 => by
    rcases p5 j hj with e | e
    · rcases q5 j hj2 with e2 | e2
      · exact h.ap j e e2
      · have := l1 j e; omega
    · rcases q5 j hj2 with e2 | e2
      · have := l2 j e2; omega
      · have := l1' j hj; omega
  have t1' : ¬ BlP b1 T1' t := fun e => by
    rcases p5 t e with e | e
    · exact h.t1 e
    · omega
  have t2' : ¬ BlP b2 T2' t := fun e => by
    rcases q5 t e with e | e
    · exact h.t2 e
    · omega
  have m1 : MapStIS base w2 b1 T1' := mapStIS_fr p1 q4 fun j hj e => by
    rcases p5 j hj with e1 | e1
    · exact h.ap j e1 e
    · have := l2 j e; omega
  have fc : Fr (fun j => j = t) w2 (w2.setCell ⟨t, 1, none⟩ (.int .i64 ((L.length : Int) + 1))) := Fr.setCell (X := fun j => j = t) (Fr.refl _ w2) _ rfl _
  have hb2 : w2.heap[t]? = some (.cells #[.int .i64 most, .int .i64 L.length, .map (some b1), .map (some b2)] 124 (0, 0)) := q4.blk (p4.blk h.blk h.t1) h.t2
  refine ⟨fun j => j = t ∨ BlP b1 T1' j ∨ BlP b2 T2' j, ⟨b1, b2, T1', T2', ⟨h.le, ?_, mapStIS_fr m1 fc fun j hj e => t1' (e ▸ hj), mapStSI_fr q1 fc fun j hj e => t2' (e ▸ hj), p3 h.n1, q3 h.n2, sep, t1', t2', fun a' b' => ?_, fun a' b' => ?_, ?_⟩, fun j => Iff.rfl⟩, fun j hj => ?_, ?_⟩
  · have := blk_set hb2 1 (.int .i64 ((L.length : Int) + 1))
    rw [this, List.length_append, List.length_singleton]
    rfl
  · rw [p2, List.mem_append, List.mem_singleton]
    by_cases e : a' = a
    · subst e
      rw [if_pos rfl, insI_memS, h.h1]
      simp [or_comm]
    · rw [if_neg e, h.h1]
      simp [e]
  · rw [q2, List.mem_append, List.mem_singleton]
    by_cases e : b' = b
    · subst e
      rw [if_pos rfl, insI_mem, h.h2]
      simp [or_comm]
    · rw [if_neg e, h.h2]
      simp [e]
  · rw [List.nodup_append]
    refine ⟨h.nd, by simp, fun x hx y hy e => ?_⟩
    rw [List.mem_singleton] at hy
    exact hn (by rw [← hy, ← e]; exact hx)
  · rcases hj with rfl | hj | hj
    · exact .inl (.inl rfl)
    · rcases p5 j hj with e | e
      · exact .inl (.inr (.inl e))
      · exact .inr e
    · rcases q5 j hj with e | e
      · exact .inl (.inr (.inr e))
      · exact .inr (by omega)
  · exact ((p4.mono fun j _ e => .inr (.inl e) : Fr (fun j => j = t ∨ BlP b1 T1 j ∨ BlP b2 T2 j) w w1).trans3 q4 fun j _ e => .inr (.inr e)).trans3 fc fun j _ e => .inl e
/-- what Add does -/
def AddRIS (base t : Nat) (X : Nat → Prop) (most : Int) (L : List ((Int) × (List UInt8))) (a : Int) (b : List UInt8) (w : World) (e : Ending) (w' : World) : Prop :=
  ∃ X', (∀ j, X' j → X j ∨ w.heap.size ≤ j) ∧ Fr X w w' ∧
    (((a, b) ∈ L ∧ e = .returned (.int .i64 6) ∧ RelAtIS base w' t X' most L) ∨
     ((a, b) ∉ L ∧ (∀ xs : List (List UInt8), xs.Pairwise (· < ·) → (∀ x, x ∈ xs ↔ (a, x) ∈ L) → most ≤ xs.length) ∧ e = .returned (.int .i64 7) ∧ RelAtIS base w' t X' most L) ∨
     ((a, b) ∉ L ∧ (∀ xs : List (List UInt8), xs.Pairwise (· < ·) → (∀ x, x ∈ xs ↔ (a, x) ∈ L) → (xs.length : Int) < most) ∧ e = .returned (.int .i64 0) ∧ RelAtIS base w' t X' most (L ++ [(a, b)])))
set_option maxRecDepth 100000 in
set_option maxHeartbeats 4000000 in
theorem relAddIS {base : Nat} {w : World} {t : Nat} {X : Nat → Prop} {most : Int} {L : List ((Int) × (List UInt8))} (h : RelAtIS base w t X most L) (hbw : base ≤ w.heap.size) (hL : L.length ≤ 90000) {a : Int} (ha : OkKIS a) {b : List UInt8} (hb : OkKSI b) :
    Calls Tryz.prog 45 #[.pointer (some ⟨t, 0, none⟩), .int .i64 a, .string (bs b)] w (AddRIS base t X most L a b w) := by
  obtain ⟨b1, b2, T1, T2, hR, hX⟩ := h
  have HH := relHasIS hR (by omega) ha b
  have hks := hR.keys
  obtain ⟨d, hd⟩ : ∃ d, decide ((a, b) ∈ L) = d := ⟨_, rfl⟩
  rw [hd] at HH
  have HHas := Lib.hid HH
  have H := Lib.hid (And.intro hR (And.intro hX hd))
  have HC : Hid (∀ V : World, V.heap = w.heap → Calls Tryz.prog 56 #[.pointer (some ⟨t, 0, none⟩), .int .i64 a] V fun e w' => e = .returned (.int .i64 (lk T1 a).length) ∧ w' = V) := fun V hV => relCountIS (hR.same fun j _ => by rw [hV] : RelStIS base V t b1 b2 most L T1 T2) ha
  have hsz := hks.2.2.1 a
  obtain ⟨n, hn⟩ : ∃ n, (lk T1 a).length = n := ⟨_, rfl⟩
  rw [hn] at HC hsz
  have HN := Lib.hid (And.intro hn hks)
  have HA := Lib.hid (And.intro ha hb)
  have c0 := blk_cell hR.blk 0
  have c1 := blk_cell hR.blk 1
  have c2 := blk_cell hR.blk 2
  have c3 := blk_cell hR.blk 3
  clear HH hR hX hd hks hn ha hb
  go_enter Tryz.func45, Tryz.ntmps45
  go_wp2_with fail
  refine HHas.out.mono ?_
  rintro e w1 ⟨rfl, q, rfl⟩
  have same : ∀ W : World, W.heap = w.heap → Fr (fun _ => False) w W → ∀ e, (((a, b) ∈ L ∧ e = .returned (.int .i64 6)) ∨ ((a, b) ∉ L ∧ (∀ xs : List (List UInt8), xs.Pairwise (· < ·) → (∀ x, x ∈ xs ↔ (a, x) ∈ L) → most ≤ xs.length) ∧ e = .returned (.int .i64 7))) → AddRIS base t X most L a b w e W := by
    intro W hW hf e he
    obtain ⟨hR, hX, hd⟩ := H.out
    have hAt : RelAtIS base W t X most L := ⟨b1, b2, T1, T2, hR.same fun _ _ => by rw [hW], hX⟩
    refine ⟨X, fun j hj => .inl hj, hf.mono fun _ _ e => e.elim, ?_⟩
    rcases he with ⟨h1, rfl⟩ | ⟨h1, h2, rfl⟩
    · exact .inl ⟨h1, rfl, hAt⟩
    · exact .inr (.inl ⟨h1, h2, rfl, hAt⟩)
  have HS := Lib.hid same
  clear same
  cases d with
  | true =>
    go_wp2_with fail
    go_ret
    exact HS.out (w.drewN q) rfl ((Fr.refl _ w).drewN q) _ (.inl ⟨by simpa using H.out.2.2, rfl⟩)
  | false =>
    have hnot : (a, b) ∉ L := by simpa using H.out.2.2
    have HNot := Lib.hid hnot
    clear hnot
    go_wp2_with fail
    obtain ⟨W1, hW1⟩ : ∃ W1, w.drewN q = W1 := ⟨_, rfl⟩
    have e0 : W1.cell? ⟨t, 0, none⟩ = some (.int .i64 most) := by rw [← hW1]; exact c0
    have e2 : W1.cell? ⟨t, 2, none⟩ = some (.map (some b1)) := by rw [← hW1]; exact c2
    have hh : W1.heap = w.heap := by rw [← hW1]; rfl
    have HH := Lib.hid (And.intro hW1 hh)
    rw [hW1]
    clear c0 c1 c2 c3 hW1 hh
    by_cases hmost : most ≤ (n : Int)
    · have q1 : decide (most ≤ (n : Int)) = true := by simp; omega
      go_quiet ((go_at_call 56; exact Calls.quiet_of_same (HC.out _ HH.out.2)))
      go_wp2_with fail
      go_ret
      refine HS.out (W1.drewN nq) HH.out.2 (by rw [← HH.out.1]; exact ((Fr.refl _ w).drewN q).drewN nq) _ (.inr ⟨HNot.out, fun xs hx1 hx2 => ?_, rfl⟩)
      have e := up_extS hx1 (lkUpIS H.out.1.m1 a) fun x => (hx2 x).trans (H.out.1.h1 a x).symm
      rw [e, HN.out.1]; exact hmost
    · have q1 : decide (most ≤ (n : Int)) = false := by simp; omega
      go_quiet ((go_at_call 56; exact Calls.quiet_of_same (HC.out _ HH.out.2)))
      obtain ⟨V, hV⟩ : ∃ V, W1.drewN nq = V := ⟨_, rfl⟩
      rw [hV]
      have v2 : V.cell? ⟨t, 2, none⟩ = some (.map (some b1)) := by rw [← hV]; exact e2
      have hVh : V.heap = w.heap := by rw [← hV]; exact HH.out.2
      have hVf : Fr (fun _ => False) w V := by rw [← hV, ← HH.out.1]; exact ((Fr.refl _ w).drewN q).drewN nq
      have hRV : RelStIS base V t b1 b2 most L T1 T2 := H.out.1.same fun _ _ => by rw [hVh]
      have hbV : base ≤ V.heap.size := by rw [hVh]; exact hbw
      have HF := Lib.hid (fillIS hRV.m1 hbV HA.out.1 b (Nat.le_trans HN.out.2.1 (by omega)) (Nat.le_trans (HN.out.2.2.2.1 a) (by omega)))
      have HV := Lib.hid (And.intro hRV (And.intro hVh (And.intro hVf hbV)))
      clear hV e0 e2 hVh hVf hRV hbV
      go_wp2_with fail
      refine HF.out.mono ?_
      rintro e w3 ⟨rfl, hP1⟩
      obtain ⟨hRV, hVh, hVf, hbV⟩ := HV.out
      obtain ⟨T1', p1, p2, p3, p4, p5, p6⟩ := id hP1
      have hb3 := p4.blk hRV.blk hRV.t1
      have c3 := blk_cell hb3 3
      have m2 : MapStSI base w3 b2 T2 := mapStSI_fr hRV.m2 p4 fun j hj e => hRV.ap j e hj
      have HF2 := Lib.hid (fillSI m2 (Nat.le_trans hbV p4.size) HA.out.2 a (Nat.le_trans HN.out.2.2.1 (by omega)) (Nat.le_trans (HN.out.2.2.2.2 b) (by omega)))
      have HP := Lib.hid (And.intro hP1 (And.intro hb3 m2))
      clear hP1 p1 p2 p3 p4 p5 p6 hb3 m2 hRV hVh hVf hbV v2
      go_wp2_with fail
      refine HF2.out.mono ?_
      rintro e w4 ⟨rfl, hP2⟩
      obtain ⟨hRV, hVh, hVf, hbV⟩ := HV.out
      obtain ⟨hP1, hb3, m2⟩ := HP.out
      obtain ⟨T2', q1', q2, q3, q4, q5, q6⟩ := id hP2
      have hb4 := q4.blk hb3 hRV.t2
      have c1 := blk_cell hb4 1
      have f1 := blk_free hb4 1
      obtain ⟨X', hat, hx', hfr⟩ := add_stIS hRV HNot.out hP1 hP2
      have hl1 : ¬ 9223372036854775807 < (L.length : Int) + 1 := by omega
      have hl2 : (L.length : Int) ≤ 100000 := by omega
      have hl3 : 0 ≤ (L.length : Int) := by omega
      have HE : Hid (AddRIS base t X most L a b w (.returned (.int .i64 0)) (w4.setCell ⟨t, 1, none⟩ (.int .i64 ((L.length : Int) + 1)))) := by
        have hX := H.out.2.1
        refine ⟨X', fun j hj => ?_, ?_, .inr (.inr ⟨HNot.out, fun xs hx1 hx2 => ?_, rfl, hat⟩)⟩
        · rcases hx' j hj with e | e
          · exact .inl ((hX j).2 e)
          · exact .inr (by rw [← hVh]; exact e)
        · exact (hVf.mono fun _ _ e => e.elim : Fr X w V).trans3 hfr fun j _ e => (hX j).2 e
        · have e := up_extS hx1 (lkUpIS H.out.1.m1 a) fun x => (hx2 x).trans (H.out.1.h1 a x).symm
          rw [e, HN.out.1]; omega
      clear hP1 hb3 m2 hP2 q1' q2 q3 q4 q5 q6 hb4 hat hx' hfr hRV hVh hVf hbV
      go_wp2_with fail
      go_ret
      exact HE.out
end Go.Proofs.YtlkeomcillencaaGreat
end
section
/- Layer 11: a relation of ints and strings: Remove; nil ones. -/
namespace Go.Proofs.YtlkeomcillencaaGreat
open Go Go.RowKit Go.Maps Go.Lib

def lessLIS (L : List ((Int) × (List UInt8))) (a : Int) (b : List UInt8) : List ((Int) × (List UInt8)) := L.filter fun p => decide (p ≠ (a, b))
theorem lessMemIS {L : List ((Int) × (List UInt8))} {a : Int} {b : List UInt8} {p : (Int) × (List UInt8)} : p ∈ lessLIS L a b ↔ p ∈ L ∧ p ≠ (a, b) := by unfold lessLIS; rw [List.mem_filter]; simp
theorem lessNotIS {L : List ((Int) × (List UInt8))} {a : Int} {b : List UInt8} (h : (a, b) ∉ L) : lessLIS L a b = L := by
  unfold lessLIS
  rw [List.filter_eq_self]
  intro p hp
  simp only [decide_eq_true_eq]
  exact fun e => h (e ▸ hp)
theorem lessLenIS {L : List ((Int) × (List UInt8))} {a : Int} {b : List UInt8} (hn : L.Nodup) (h : (a, b) ∈ L) : (lessLIS L a b).length + 1 = L.length := by
  induction L with
  | nil => cases h
  | cons x r ih =>
    rw [List.nodup_cons] at hn
    unfold lessLIS at ih ⊢
    by_cases e : x = (a, b)
    · subst e
      rw [List.filter_cons_of_neg (by simp)]
      have := lessNotIS hn.1
      unfold lessLIS at this
      rw [this, List.length_cons]
    · rw [List.filter_cons_of_pos (by simpa using e), List.length_cons, List.length_cons]
      rcases List.mem_cons.1 h with h | h
      · exact absurd h.symm e
      · have := ih hn.2 h; omega
theorem rem_stIS {base : Nat} {w w1 w2 : World} {t b1 b2 : Nat} {most : Int} {L : List ((Int) × (List UInt8))} {T1 : List ((Int) × SetE (List UInt8))} {T2 : List ((List UInt8) × SetE (Int))} (h : RelStIS base w t b1 b2 most L T1 T2)
    {a : Int} {b : List UInt8} (hm : (a, b) ∈ L) (h1 : PutPIS base b1 T1 a (delIS (lk T1 a) b) w w1) (h2 : PutPSI base b2 T2 b (delI (lk T2 b) a) w1 w2) :
    ∃ X', RelAtIS base (w2.setCell ⟨t, 1, none⟩ (.int .i64 ((L.length : Int) - 1))) t X' most (lessLIS L a b) ∧ (∀ j, X' j → (j = t ∨ BlP b1 T1 j ∨ BlP b2 T2 j) ∨ w.heap.size ≤ j) ∧ Fr (fun j => j = t ∨ BlP b1 T1 j ∨ BlP b2 T2 j) w (w2.setCell ⟨t, 1, none⟩ (.int .i64 ((L.length : Int) - 1))) := by
  have hlen := lessLenIS h.nd hm
  obtain ⟨T1', p1, p2, p3, p4, p5, p6⟩ := h1
  obtain ⟨T2', q1, q2, q3, q4, q5, q6⟩ := h2
  have hz := p4.size
  have l1 : ∀ j, BlP b1 T1 j → j < w.heap.size := fun j hj => (blPIS_lt h.m1 hj).2
  have l2 : ∀ j, BlP b2 T2 j → j < w.heap.size := fun j hj => (blPSI_lt h.m2 hj).2
  have l1' : ∀ j, BlP b1 T1' j → j < w1.heap.size := fun j hj => (blPIS_lt p1 hj).2
  have lt := blk_lt h.blk
  have sep : ∀ j, BlP b1 T1' j → ¬ BlP b2 T2' j := fun j hj hj2 => by
    rcases p5 j hj with e | e
    · rcases q5 j hj2 with e2 | e2
      · exact h.ap j e e2
      · have := l1 j e; omega
    · rcases q5 j hj2 with e2 | e2
      · have := l2 j e2; omega
      · have := l1' j hj; omega
  have t1' : ¬ BlP b1 T1' t := fun e => by
    rcases p5 t e with e | e
    · exact h.t1 e
    · omega
  have t2' : ¬ BlP b2 T2' t := fun e => by
    rcases q5 t e with e | e
    · exact h.t2 e
    · omega
  have m1 : MapStIS base w2 b1 T1' := mapStIS_fr p1 q4 fun j hj e => by
    rcases p5 j hj with e1 | e1
    · exact h.ap j e1 e
    · have := l2 j e; omega
  have fc : Fr (fun j => j = t) w2 (w2.setCell ⟨t, 1, none⟩ (.int .i64 ((L.length : Int) - 1))) := Fr.setCell (X := fun j => j = t) (Fr.refl _ w2) _ rfl _
  have hb2 : w2.heap[t]? = some (.cells #[.int .i64 most, .int .i64 L.length, .map (some b1), .map (some b2)] 124 (0, 0)) := q4.blk (p4.blk h.blk h.t1) h.t2
  refine ⟨fun j => j = t ∨ BlP b1 T1' j ∨ BlP b2 T2' j, ⟨b1, b2, T1', T2', ⟨h.le, ?_, mapStIS_fr m1 fc fun j hj e => t1' (e ▸ hj), mapStSI_fr q1 fc fun j hj e => t2' (e ▸ hj), p3 h.n1, q3 h.n2, sep, t1', t2', fun a' b' => ?_, fun a' b' => ?_, ?_⟩, fun j => Iff.rfl⟩, fun j hj => ?_, ?_⟩
  · have := blk_set hb2 1 (.int .i64 ((L.length : Int) - 1))
    rw [this, show ((lessLIS L a b).length : Int) = (L.length : Int) - 1 by omega]
    rfl
  · rw [p2, lessMemIS]
    by_cases e : a' = a
    · subst e
      rw [if_pos rfl, delI_memS (lkUpIS h.m1 a'), h.h1]
      simp
    · rw [if_neg e, h.h1]
      simp [e]
  · rw [q2, lessMemIS]
    by_cases e : b' = b
    · subst e
      rw [if_pos rfl, delI_mem (lkUpSI h.m2 b'), h.h2]
      simp
    · rw [if_neg e, h.h2]
      simp [e]
  · exact h.nd.sublist List.filter_sublist
  · rcases hj with rfl | hj | hj
    · exact .inl (.inl rfl)
    · rcases p5 j hj with e | e
      · exact .inl (.inr (.inl e))
      · exact .inr e
    · rcases q5 j hj with e | e
      · exact .inl (.inr (.inr e))
      · exact .inr (by omega)
  · exact ((p4.mono fun j _ e => .inr (.inl e) : Fr (fun j => j = t ∨ BlP b1 T1 j ∨ BlP b2 T2 j) w w1).trans3 q4 fun j _ e => .inr (.inr e)).trans3 fc fun j _ e => .inl e
/-- what Remove does -/
def RemRIS (base t : Nat) (X : Nat → Prop) (most : Int) (L : List ((Int) × (List UInt8))) (a : Int) (b : List UInt8) (w : World) (e : Ending) (w' : World) : Prop :=
  e = .returned (.bool (decide ((a, b) ∈ L))) ∧ ∃ X', (∀ j, X' j → X j ∨ w.heap.size ≤ j) ∧ Fr X w w' ∧ RelAtIS base w' t X' most (lessLIS L a b)
set_option maxRecDepth 100000 in
set_option maxHeartbeats 4000000 in
theorem relRemIS {base : Nat} {w : World} {t : Nat} {X : Nat → Prop} {most : Int} {L : List ((Int) × (List UInt8))} (h : RelAtIS base w t X most L) (hbw : base ≤ w.heap.size) (hL : L.length ≤ 90000) {a : Int} (ha : OkKIS a) {b : List UInt8} (hb : OkKSI b) :
    Calls Tryz.prog 39 #[.pointer (some ⟨t, 0, none⟩), .int .i64 a, .string (bs b)] w (RemRIS base t X most L a b w) := by
  obtain ⟨b1, b2, T1, T2, hR, hX⟩ := h
  have HH := relHasIS hR (by omega) ha b
  have hks := hR.keys
  have H := Lib.hid (And.intro hR hX)
  unfold RemRIS
  by_cases hd : (a, b) ∈ L
  · rw [decide_eq_true hd] at HH ⊢
    have HHas := Lib.hid HH
    have HA := Lib.hid (And.intro hks (And.intro ha hb))
    have HD := Lib.hid hd
    clear HH hR hX hks ha hb hd
    have hone : 1 ≤ L.length := List.length_pos_of_mem HD.out
    go_enter Tryz.func39, Tryz.ntmps39
    go_wp2_with fail
    refine HHas.out.mono ?_
    rintro e w1 ⟨rfl, q, rfl⟩
    obtain ⟨V, hV⟩ : ∃ V, w.drewN q = V := ⟨_, rfl⟩
    rw [hV]
    have hVh : V.heap = w.heap := by rw [← hV]; rfl
    have hVf : Fr (fun _ => False) w V := by rw [← hV]; exact (Fr.refl _ w).drewN q
    have hRV : RelStIS base V t b1 b2 most L T1 T2 := H.out.1.same fun _ _ => by rw [hVh]
    have hbV : base ≤ V.heap.size := by rw [hVh]; exact hbw
    have v2 := blk_cell hRV.blk 2
    obtain ⟨e1, hl1, hx1⟩ := lkHasIS ((hRV.h1 a b).2 HD.out)
    obtain ⟨e2, hl2, hx2⟩ := lkHasSI ((hRV.h2 a b).2 HD.out)
    have HF := Lib.hid (emptyIS hRV.m1 hbV HA.out.2.1 b hl1 (by rw [hx1]; exact Nat.le_trans (HA.out.1.2.2.1 a) (by omega)))
    have HV := Lib.hid (And.intro hRV (And.intro hVh (And.intro hVf (And.intro hbV (And.intro hl2 hx2)))))
    clear hV hVh hVf hRV hbV hl1 hx1 hl2 hx2
    go_wp2_with fail
    refine HF.out.mono ?_
    rintro e w3 ⟨rfl, hP1⟩
    obtain ⟨hRV, hVh, hVf, hbV, hl2, hx2⟩ := HV.out
    obtain ⟨T1', p1, p2, p3, p4, p5, p6⟩ := id hP1
    have hb3 := p4.blk hRV.blk hRV.t1
    have c3 := blk_cell hb3 3
    have m2 : MapStSI base w3 b2 T2 := mapStSI_fr hRV.m2 p4 fun j hj e => hRV.ap j e hj
    have HF2 := Lib.hid (emptySI m2 (Nat.le_trans hbV p4.size) HA.out.2.2 a hl2 (by rw [hx2]; exact Nat.le_trans (HA.out.1.2.2.2 b) (by omega)))
    have HP := Lib.hid (And.intro hP1 (And.intro hb3 m2))
    clear hP1 p1 p2 p3 p4 p5 p6 hb3 m2 hRV hVh hVf hbV v2 hl2 hx2
    go_wp2_with fail
    refine HF2.out.mono ?_
    rintro e w4 ⟨rfl, hP2⟩
    obtain ⟨hRV, hVh, hVf, hbV, hl2, hx2⟩ := HV.out
    obtain ⟨hP1, hb3, m2⟩ := HP.out
    obtain ⟨T2', q1', q2, q3, q4, q5, q6⟩ := id hP2
    have hb4 := q4.blk hb3 hRV.t2
    have c1 := blk_cell hb4 1
    have f1 := blk_free hb4 1
    obtain ⟨X', hat, hx', hfr⟩ := rem_stIS hRV HD.out hP1 hP2
    have hl2 : (L.length : Int) ≤ 100000 := by omega
    have hl3 : 1 ≤ (L.length : Int) := by omega
    have HE : Hid (RemRIS base t X most L a b w (.returned (.bool true)) (w4.setCell ⟨t, 1, none⟩ (.int .i64 ((L.length : Int) - 1)))) := by
      have hX := H.out.2
      refine ⟨by rw [decide_eq_true HD.out], X', fun j hj => ?_, ?_, hat⟩
      · rcases hx' j hj with e | e
        · exact .inl ((hX j).2 e)
        · exact .inr (by rw [← hVh]; exact e)
      · exact (hVf.mono fun _ _ e => e.elim : Fr X w V).trans3 hfr fun j _ e => (hX j).2 e
    clear hP1 hb3 m2 hP2 q1' q2 q3 q4 q5 q6 hb4 hat hx' hfr hRV hVh hVf hbV hx2
    go_wp2_with fail
    go_ret
    exact ⟨rfl, HE.out.2⟩
  · rw [decide_eq_false hd] at HH ⊢
    have HHas := Lib.hid HH
    have HD := Lib.hid hd
    clear HH hR hX hks ha hb hd
    go_enter Tryz.func39, Tryz.ntmps39
    go_wp2_with fail
    refine HHas.out.mono ?_
    rintro e w1 ⟨rfl, q, rfl⟩
    go_wp2_with fail
    go_ret
    refine ⟨rfl, X, fun j hj => .inl hj, (Fr.refl X w).drewN q, ?_⟩
    rw [lessNotIS HD.out]
    exact ⟨b1, b2, T1, T2, H.out.1.same fun _ _ => rfl, H.out.2⟩
/-- a nil relation -/
theorem rightsNilIS (a : Int) (w : World) : Calls Tryz.prog 74 #[.pointer none, .int .i64 a] w fun e w' => e = .returned (.pointer none) ∧ w' = w := by
  go_enter Tryz.func74, Tryz.ntmps74
  go_wp2_with fail
  go_ret
  exact ⟨rfl, rfl⟩
theorem relHasNilIS (a : Int) (b : List UInt8) (w : World) : Calls Tryz.prog 65 #[.pointer none, .int .i64 a, .string (bs b)] w fun e w' => e = .returned (.bool false) ∧ w' = w := by
  have HR := Lib.hid (rightsNilIS a w)
  have HS := Lib.hid (set_has_nilS b w)
  go_enter Tryz.func65, Tryz.ntmps65
  go_wp2_with fail
  refine HR.out.mono ?_
  rintro e w1 ⟨rfl, rfl⟩
  go_wp2_with fail
  refine HS.out.mono ?_
  rintro e w2 ⟨rfl, rfl⟩
  go_wp2_with fail
  go_ret
  exact ⟨rfl, rfl⟩
theorem relCountNilIS (a : Int) (w : World) : Calls Tryz.prog 56 #[.pointer none, .int .i64 a] w fun e w' => e = .returned (.int .i64 0) ∧ w' = w := by
  have HR := Lib.hid (rightsNilIS a w)
  have HS := Lib.hid (set_len_nilS w)
  go_enter Tryz.func56, Tryz.ntmps56
  go_wp2_with fail
  refine HR.out.mono ?_
  rintro e w1 ⟨rfl, rfl⟩
  go_wp2_with fail
  refine HS.out.mono ?_
  rintro e w2 ⟨rfl, rfl⟩
  go_wp2_with fail
  go_ret
  exact ⟨rfl, rfl⟩

theorem relAddNilIS (a : Int) (b : List UInt8) (w : World) : Calls Tryz.prog 45 #[.pointer none, .int .i64 a, .string (bs b)] w fun e w' => e = .returned (.int .i64 1) ∧ w' = w := by
  go_enter Tryz.func45, Tryz.ntmps45
  go_wp2_with fail
  go_ret
  exact ⟨rfl, rfl⟩
theorem relRemNilIS (a : Int) (b : List UInt8) (w : World) : Calls Tryz.prog 39 #[.pointer none, .int .i64 a, .string (bs b)] w fun e w' => e = .returned (.bool false) ∧ w' = w := by
  have HR := Lib.hid (relHasNilIS a b w)
  go_enter Tryz.func39, Tryz.ntmps39
  go_wp2_with fail
  refine HR.out.mono ?_
  rintro e w1 ⟨rfl, rfl⟩
  go_wp2_with fail
  go_ret
  exact ⟨rfl, rfl⟩
theorem relOfNilIS (a : Int) (w : World) : Calls Tryz.prog 44 #[.pointer none, .int .i64 a] w (AllPS [] w) := by
  have HR := Lib.hid (rightsNilIS a w)
  have HA := Lib.hid (set_all_nilS w)
  go_enter Tryz.func44, Tryz.ntmps44
  go_wp2_with fail
  refine HR.out.mono ?_
  rintro e w1 ⟨rfl, rfl⟩
  go_wp2_with fail
  refine HA.out.mono ?_
  rintro e w2 ⟨⟨F, rfl, h4⟩, h5⟩
  have H2 := Lib.hid (And.intro h4 h5)
  clear h4 h5
  go_wp2_with fail
  go_ret
  exact ⟨⟨_, rfl, H2.out.1⟩, H2.out.2⟩
theorem relByNilIS (b : List UInt8) (w : World) : Calls Tryz.prog 61 #[.pointer none, .string (bs b)] w (AllP [] w) := by
  have HA := Lib.hid (set_all_nil w)
  go_enter Tryz.func61, Tryz.ntmps61
  go_wp2_with fail
  refine HA.out.mono ?_
  rintro e w2 ⟨⟨F, rfl, h4⟩, h5⟩
  have H2 := Lib.hid (And.intro h4 h5)
  clear h4 h5
  go_wp2_with fail
  go_ret
  exact ⟨⟨_, rfl, H2.out.1⟩, H2.out.2⟩
end Go.Proofs.YtlkeomcillencaaGreat
end
section
/- Layer 11: a relation of ints and strings: in words of its pairs alone. -/
namespace Go.Proofs.YtlkeomcillencaaGreat
open Go Go.RowKit Go.Maps Go.Lib

theorem AddRIS.ok {base t : Nat} {X : Nat → Prop} {most : Int} {L : List ((Int) × (List UInt8))} {a : Int} {b : List UInt8} {w : World} {e : Ending} {w' : World} (h : AddRIS base t X most L a b w e w') (hn : (a, b) ∉ L) (xs : List (List UInt8)) (h1 : xs.Pairwise (· < ·)) (h2 : ∀ x, x ∈ xs ↔ (a, x) ∈ L) (hl : (xs.length : Int) < most) :
    e = .returned (.int .i64 0) ∧ ∃ X', (∀ j, X' j → X j ∨ w.heap.size ≤ j) ∧ Fr X w w' ∧ RelAtIS base w' t X' most (L ++ [(a, b)]) := by
  obtain ⟨X', p1, p2, ⟨q1, _⟩ | ⟨_, q2, _⟩ | ⟨_, _, q3, q4⟩⟩ := h
  · exact absurd q1 hn
  · have := q2 xs h1 h2; omega
  · exact ⟨q3, X', p1, p2, q4⟩
/-- whatever Add does -/
theorem AddRIS.any {base t : Nat} {X : Nat → Prop} {most : Int} {L : List ((Int) × (List UInt8))} {a : Int} {b : List UInt8} {w : World} {e : Ending} {w' : World} (h : AddRIS base t X most L a b w e w') :
    ∃ X' c L', e = .returned (.int .i64 c) ∧ (∀ j, X' j → X j ∨ w.heap.size ≤ j) ∧ Fr X w w' ∧ RelAtIS base w' t X' most L' ∧ (L' = L ∧ (c = 6 ∧ (a, b) ∈ L ∨ c = 7 ∧ (a, b) ∉ L ∧ (∀ xs : List (List UInt8), xs.Pairwise (· < ·) → (∀ x, x ∈ xs ↔ (a, x) ∈ L) → most ≤ xs.length)) ∨
      L' = L ++ [(a, b)] ∧ c = 0 ∧ (a, b) ∉ L ∧ (∀ xs : List (List UInt8), xs.Pairwise (· < ·) → (∀ x, x ∈ xs ↔ (a, x) ∈ L) → (xs.length : Int) < most)) := by
  obtain ⟨X', p1, p2, ⟨q1, q3, q4⟩ | ⟨q1, q2, q3, q4⟩ | ⟨q1, q2, q3, q4⟩⟩ := h
  · exact ⟨X', 6, L, q3, p1, p2, q4, .inl ⟨rfl, .inl ⟨rfl, q1⟩⟩⟩
  · exact ⟨X', 7, L, q3, p1, p2, q4, .inl ⟨rfl, .inr ⟨rfl, q1, q2⟩⟩⟩
  · exact ⟨X', 0, _, q3, p1, p2, q4, .inr ⟨rfl, rfl, q1, q2⟩⟩
section
variable {base : Nat} {w : World} {t : Nat} {X : Nat → Prop} {most : Int} {L : List ((Int) × (List UInt8))}
theorem ofAtIS (h : RelAtIS base w t X most L) (hL : L.length ≤ 100000) {a : Int} (ha : OkKIS a) : ∃ xs : List (List UInt8), xs.Pairwise (· < ·) ∧ (∀ b, b ∈ xs ↔ (a, b) ∈ L) ∧ xs.length ≤ L.length ∧ ∀ V, Fr (fun _ => False) w V → Calls Tryz.prog 44 #[.pointer (some ⟨t, 0, none⟩), .int .i64 a] V (AllPS xs V) := by
  obtain ⟨b1, b2, T1, T2, h1, h2⟩ := h
  exact ⟨lk T1 a, lkUpIS h1.m1 a, h1.h1 a, h1.keys.2.2.1 a, fun V hV => relOfIS (h1.same fun j hj => hV.block j (h1.lt hj).2 fun e => e : RelStIS base V t b1 b2 most L T1 T2) hL ha⟩
theorem byAtIS (h : RelAtIS base w t X most L) (hL : L.length ≤ 100000) {b : List UInt8} (hb : OkKSI b) : ∃ xs : List (Int), xs.Pairwise (· < ·) ∧ (∀ a, a ∈ xs ↔ (a, b) ∈ L) ∧ xs.length ≤ L.length ∧ ∀ V, Fr (fun _ => False) w V → Calls Tryz.prog 61 #[.pointer (some ⟨t, 0, none⟩), .string (bs b)] V (AllP xs V) := by
  obtain ⟨b1, b2, T1, T2, h1, h2⟩ := h
  exact ⟨lk T2 b, lkUpSI h1.m2 b, fun a => h1.h2 a b, h1.keys.2.2.2 b, fun V hV => relByIS (h1.same fun j hj => hV.block j (h1.lt hj).2 fun e => e : RelStIS base V t b1 b2 most L T1 T2) hL hb⟩
theorem hasAtIS (h : RelAtIS base w t X most L) (hL : L.length ≤ 100000) {a : Int} (ha : OkKIS a) (b : List UInt8) : Calls Tryz.prog 65 #[.pointer (some ⟨t, 0, none⟩), .int .i64 a, .string (bs b)] w fun e w' => e = .returned (.bool (decide ((a, b) ∈ L))) ∧ ∃ q, w' = w.drewN q := by
  obtain ⟨b1, b2, T1, T2, h1, h2⟩ := h
  exact relHasIS h1 hL ha b
theorem countAtIS (h : RelAtIS base w t X most L) {a : Int} (ha : OkKIS a) {xs : List (List UInt8)} (hx : xs.Pairwise (· < ·)) (hm : ∀ b, b ∈ xs ↔ (a, b) ∈ L) : Calls Tryz.prog 56 #[.pointer (some ⟨t, 0, none⟩), .int .i64 a] w fun e w' => e = .returned (.int .i64 xs.length) ∧ w' = w := by
  obtain ⟨b1, b2, T1, T2, h1, h2⟩ := h
  have e := up_extS hx (lkUpIS h1.m1 a) fun b => (hm b).trans (h1.h1 a b).symm
  rw [e]
  exact relCountIS h1 ha

theorem RelAtIS.below {w' : World} (h : RelAtIS base w t X most L) (hb : Below w.heap.size w w') : RelAtIS base w' t X most L := h.fr (Fr.of_below (X := fun _ => False) hb) fun _ _ e => e
end
end Go.Proofs.YtlkeomcillencaaGreat
end
section
/- Layer 19: mathematics: members, in the order of their numbers. -/
namespace Go.Proofs.YtlkeomcillencaaGreat

/-- a member: its number, operator, voice -/
abbrev Mem := Int × Bool × Bool
def UpM (l : List Mem) : Prop := l.Pairwise fun a b => a.1 < b.1
/-- where a number stands, or would stand -/
def ixM (l : List Mem) (id : Int) : Nat := l.countP fun a => decide (a.1 < id)
def hasM (l : List Mem) (id : Int) : Bool := l.any fun a => a.1 == id
theorem ixM_le (l : List Mem) (id : Int) : ixM l id ≤ l.length := List.countP_le_length
theorem hasM_mem {l : List Mem} {id : Int} : hasM l id = true ↔ ∃ a ∈ l, a.1 = id := by simp [hasM]
theorem hasM_no {l : List Mem} {id : Int} : hasM l id = false ↔ ∀ a ∈ l, a.1 ≠ id := by simp [hasM]
/-- what stands ahead is less, what stands from there on isn't -/
theorem ixM_cut : ∀ {l : List Mem}, UpM l → ∀ id j (h : j < l.length), (j < ixM l id ↔ l[j].1 < id)
  | [], _, id, j, h => by simp at h
  | a :: l, hu, id, j, h => by
    unfold UpM at hu
    rw [List.pairwise_cons] at hu
    have ih := ixM_cut (l := l) hu.2 id
    by_cases c : a.1 < id
    · have e : ixM (a :: l) id = ixM l id + 1 := by unfold ixM; rw [List.countP_cons_of_pos (by simpa using c)]
      rw [e]
      cases j with
      | zero => simp [c]
      | succ j => simp only [List.getElem_cons_succ]; rw [← ih j (by simpa using h)]; omega
    · have e : ixM (a :: l) id = 0 := by
        unfold ixM
        rw [List.countP_eq_zero]
        intro b hb
        rcases List.mem_cons.1 hb with rfl | hb
        · simpa using c
        · have := hu.1 b hb; simp; omega
      rw [e]
      cases j with
      | zero => simp [c]
      | succ j =>
        simp only [List.getElem_cons_succ]
        have := hu.1 (l[j]'(by simpa using h)) (List.getElem_mem _)
        omega
theorem ixM_at {l : List Mem} (hu : UpM l) {id : Int} (h : hasM l id = true) : ∃ h2 : ixM l id < l.length, (l[ixM l id]'h2).1 = id := by
  obtain ⟨a, ha, e⟩ := hasM_mem.1 h
  obtain ⟨j, hj, rfl⟩ := List.getElem_of_mem ha
  have h1 := ixM_cut hu id j hj
  have hle : ¬ j < ixM l id := fun c => by have := h1.1 c; omega
  have hlt : ixM l id < l.length := by omega
  refine ⟨hlt, ?_⟩
  have h2 := ixM_cut hu id (ixM l id) hlt
  rcases Nat.lt_or_ge (ixM l id) j with c | c
  · have := List.pairwise_iff_getElem.1 hu (ixM l id) j hlt hj c
    have h3 : ¬ (l[ixM l id]).1 < id := fun d => by have := h2.2 d; omega
    omega
  · have : ixM l id = j := by omega
    simp only [this]; exact e
theorem hasM_at {l : List Mem} (hu : UpM l) (id : Int) : hasM l id = true ↔ ∃ h2 : ixM l id < l.length, (l[ixM l id]'h2).1 = id :=
  ⟨ixM_at hu, fun ⟨h2, e⟩ => hasM_mem.2 ⟨_, List.getElem_mem h2, e⟩⟩
/-- one more -/
def insM (l : List Mem) (m : Mem) : List Mem := l.take (ixM l m.1) ++ m :: l.drop (ixM l m.1)
def delMb (l : List Mem) (id : Int) : List Mem := l.take (ixM l id) ++ l.drop (ixM l id + 1)
theorem insM_perm (l : List Mem) (m : Mem) : (insM l m).Perm (m :: l) := by
  unfold insM
  refine List.perm_middle.trans ?_
  rw [List.take_append_drop]
theorem insM_len (l : List Mem) (m : Mem) : (insM l m).length = l.length + 1 := (insM_perm l m).length_eq
theorem delM_perm {l : List Mem} {i : Nat} (h : i < l.length) : l.Perm (l[i] :: (l.take i ++ l.drop (i + 1))) := by
  have e : l.take i ++ l[i] :: l.drop (i + 1) = l := by rw [← List.drop_eq_getElem_cons h, List.take_append_drop]
  exact (List.Perm.of_eq e.symm).trans List.perm_middle
theorem setM_perm {l : List Mem} {i : Nat} (h : i < l.length) (m : Mem) : (l.set i m).Perm (m :: (l.take i ++ l.drop (i + 1))) := by
  rw [List.set_eq_take_append_cons_drop, if_pos h]
  exact List.perm_middle
theorem insM_up {l : List Mem} (hu : UpM l) {m : Mem} (h : hasM l m.1 = false) : UpM (insM l m) := by
  unfold insM UpM
  have hp := hu
  unfold UpM at hp
  rw [← List.take_append_drop (ixM l m.1) l] at hp
  obtain ⟨p1, p2, p3⟩ := List.pairwise_append.1 hp
  have t1 : ∀ a ∈ l.take (ixM l m.1), a.1 < m.1 := fun a ha => by
    obtain ⟨j, hj, rfl⟩ := List.getElem_of_mem ha
    rw [List.length_take] at hj
    rw [List.getElem_take]
    exact (ixM_cut hu m.1 j (by omega)).1 (by omega)
  have t2 : ∀ a ∈ l.drop (ixM l m.1), m.1 < a.1 := fun a ha => by
    obtain ⟨j, hj, e⟩ := List.getElem_of_mem ha
    rw [List.length_drop] at hj
    rw [List.getElem_drop] at e
    have h1 := ixM_cut hu m.1 (ixM l m.1 + j) (by omega)
    have h2 : ¬ (l[ixM l m.1 + j]).1 < m.1 := fun d => by have := h1.2 d; omega
    have h3 := hasM_no.1 h _ (List.mem_of_mem_drop ha)
    rw [e] at h2
    omega
  refine List.pairwise_append.2 ⟨p1, List.pairwise_cons.2 ⟨t2, p2⟩, fun a ha b hb => ?_⟩
  rcases List.mem_cons.1 hb with rfl | hb
  · exact t1 a ha
  · exact p3 a ha b hb
theorem delM_up {l : List Mem} (hu : UpM l) (i : Nat) : UpM (l.take i ++ l.drop (i + 1)) := by
  refine hu.sublist ?_
  conv => rhs; rw [← List.take_append_drop i l]
  exact List.Sublist.append (List.Sublist.refl _) (by rw [← List.drop_drop]; exact List.drop_sublist _ _)
theorem setM_up {l : List Mem} (hu : UpM l) {i : Nat} (h : i < l.length) {m : Mem} (hm : m.1 = l[i].1) : UpM (l.set i m) := by
  unfold UpM at *
  rw [List.pairwise_iff_getElem] at hu ⊢
  intro a b ha hb hab
  rw [List.length_set] at ha hb
  have k : ∀ j (hj : j < l.length), ((l.set i m)[j]'(by rw [List.length_set]; exact hj)).1 = l[j].1 := fun j hj => by
    rw [List.getElem_set]
    split
    · next e => subst e; exact hm
    · rfl
  rw [k a ha, k b hb]
  exact hu a b ha hb hab
/-- two rows of the same, both rising, are one -/
theorem upM_ext : ∀ {a b : List Mem}, UpM a → UpM b → a.Perm b → a = b
  | [], b, _, _, h => (List.nil_perm.1 h).symm
  | x :: a, [], _, _, h => by have := h.length_eq; simp at this
  | x :: a, y :: b, ha, hb, h => by
    unfold UpM at ha hb
    rw [List.pairwise_cons] at ha hb
    have e : x = y := by
      have h1 := h.mem_iff.1 (List.mem_cons_self (a := x) (l := a))
      have h2 := h.mem_iff.2 (List.mem_cons_self (a := y) (l := b))
      rcases List.mem_cons.1 h1 with h1 | h1
      · exact h1
      · rcases List.mem_cons.1 h2 with h2 | h2
        · exact h2.symm
        · have := ha.1 y h2; have := hb.1 x h1; omega
    subst e
    rw [upM_ext ha.2 hb.2 (List.Perm.cons_inv h)]
/-- where the document's member stands; -1: nowhere -/
def atM : List Mem → Int → Int
  | [], _ => -1
  | a :: l, id => if a.1 = id then 0 else if atM l id < 0 then -1 else atM l id + 1
theorem atM_lt : ∀ (l : List Mem) (id : Int), -1 ≤ atM l id ∧ atM l id < l.length
  | [], _ => by simp [atM]
  | a :: l, id => by
    have := atM_lt l id
    unfold atM
    split
    · simp
    · split <;> simp <;> omega
theorem atM_no : ∀ {l : List Mem} {id : Int}, atM l id < 0 ↔ hasM l id = false
  | [], id => by simp [atM, hasM]
  | a :: l, id => by
    have ih := atM_no (l := l) (id := id)
    unfold atM
    by_cases e : a.1 = id
    · rw [if_pos e]; simp [hasM, e]
    · rw [if_neg e]
      have : hasM (a :: l) id = hasM l id := by simp [hasM, e]
      rw [this, ← ih]
      split
      · next c => simp [c]
      · next c => constructor <;> intro h <;> omega
theorem atM_yes : ∀ {l : List Mem} {id : Int} {k : Nat}, atM l id = k → ∃ h : k < l.length, l[k].1 = id ∧ ∀ j (hj : j < k), (l[j]'(by omega)).1 ≠ id
  | [], id, k, h => by unfold atM at h; omega
  | a :: l, id, k, h => by
    unfold atM at h
    by_cases e : a.1 = id
    · rw [if_pos e] at h
      obtain rfl : k = 0 := by omega
      exact ⟨by simp, e, fun j hj => by omega⟩
    · rw [if_neg e] at h
      by_cases c : atM l id < 0
      · rw [if_pos c] at h; omega
      · rw [if_neg c] at h
        obtain ⟨k', rfl⟩ : ∃ k', k = k' + 1 := ⟨k - 1, by omega⟩
        obtain ⟨h1, h2, h3⟩ := atM_yes (l := l) (id := id) (k := k') (by omega)
        refine ⟨by simpa using h1, by simpa using h2, fun j hj => ?_⟩
        cases j with
        | zero => simpa using e
        | succ j => simpa using h3 j (by omega)
/-- of members no two of which have one number: what is found of a number is one and the same -/
def Apart (l : List Mem) : Prop := (l.map (·.1)).Nodup
theorem UpM.apart {l : List Mem} (h : UpM l) : Apart l := by
  unfold Apart UpM at *
  rw [List.nodup_iff_pairwise_ne, List.pairwise_map]
  exact h.imp fun h => by omega
theorem Apart.perm {a b : List Mem} (h : Apart a) (p : a.Perm b) : Apart b := (p.map fun x : Mem => x.1).nodup_iff.1 h
theorem Apart.same {l : List Mem} (h : Apart l) {a b : Mem} (ha : a ∈ l) (hb : b ∈ l) (e : a.1 = b.1) : a = b := by
  obtain ⟨i, hi, rfl⟩ := List.getElem_of_mem ha
  obtain ⟨j, hj, rfl⟩ := List.getElem_of_mem hb
  unfold Apart at h
  rw [List.nodup_iff_pairwise_ne, List.pairwise_map, List.pairwise_iff_getElem] at h
  rcases Nat.lt_trichotomy i j with c | c | c
  · exact absurd e (h i j hi hj c)
  · subst c; rfl
  · exact absurd e.symm (h j i hj hi c)
theorem hasM_perm {a b : List Mem} (p : a.Perm b) (id : Int) : hasM a id = hasM b id := by
  rw [Bool.eq_iff_iff, hasM_mem, hasM_mem]
  exact ⟨fun ⟨x, hx, e⟩ => ⟨x, p.mem_iff.1 hx, e⟩, fun ⟨x, hx, e⟩ => ⟨x, p.mem_iff.2 hx, e⟩⟩
/-- both find the same -/
theorem find_same {l L : List Mem} (hu : UpM l) (p : l.Perm L) {id : Int} {k : Nat} (hk : atM L id = k) : ∃ (h1 : ixM l id < l.length) (h2 : k < L.length), l[ixM l id] = L[k] := by
  obtain ⟨h2, e2, _⟩ := atM_yes hk
  have hh : hasM l id = true := by rw [hasM_perm p, hasM_mem]; exact ⟨_, List.getElem_mem h2, e2⟩
  obtain ⟨h1, e1⟩ := ixM_at hu hh
  exact ⟨h1, h2, hu.apart.same (List.getElem_mem h1) (p.mem_iff.2 (List.getElem_mem h2)) (e1.trans e2.symm)⟩
/-- one more, on both sides -/
theorem ins_rel {l L : List Mem} (p : l.Perm L) (m : Mem) : (insM l m).Perm (L ++ [m]) :=
  (insM_perm l m).trans ((p.cons m).trans (List.perm_append_singleton m L).symm)
theorem del_rel {l L : List Mem} (hu : UpM l) (p : l.Perm L) {id : Int} {k : Nat} (hk : atM L id = k) : (delMb l id).Perm (L.take k ++ L.drop (k + 1)) := by
  obtain ⟨h1, h2, e⟩ := find_same hu p hk
  have q := (delM_perm h1).symm.trans (p.trans (delM_perm h2))
  rw [e] at q
  exact List.Perm.cons_inv q
theorem set_rel {l L : List Mem} (hu : UpM l) (p : l.Perm L) {id : Int} {k : Nat} (hk : atM L id = k) (m : Mem) : (l.set (ixM l id) m).Perm (L.set k m) := by
  obtain ⟨h1, h2, e⟩ := find_same hu p hk
  exact (setM_perm h1 m).trans (((del_rel hu p hk).cons m).trans (setM_perm h2 m).symm)
/-- the document tells them rising: number by number -/
theorem told_rel {l L : List Mem} (hu : UpM l) (p : l.Perm L) (j : Nat) (hj : j < l.length) : ∃ k : Nat, atM L l[j].1 = k ∧ ∃ h : k < L.length, L[k] = l[j] := by
  have hm : hasM L l[j].1 = true := by rw [← hasM_perm p, hasM_mem]; exact ⟨_, List.getElem_mem hj, rfl⟩
  have h0 : ¬ atM L l[j].1 < 0 := fun c => by rw [atM_no, hm] at c; cases c
  obtain ⟨k, hk⟩ : ∃ k : Nat, atM L l[j].1 = k := ⟨(atM L l[j].1).toNat, by omega⟩
  obtain ⟨h2, e2, _⟩ := atM_yes hk
  exact ⟨k, hk, h2, hu.apart.same (p.mem_iff.2 (List.getElem_mem h2)) (List.getElem_mem hj) e2⟩
theorem ids_up {l : List Mem} (hu : UpM l) : (l.map (·.1)).Pairwise (· < ·) := by rw [List.pairwise_map]; exact hu
end Go.Proofs.YtlkeomcillencaaGreat
end
section
/- Layer 19: rows of members; where a number stands among them. -/
namespace Go.Proofs.YtlkeomcillencaaGreat
open Go Go.RowKit

def cmpR (a b : Int) : Int := if a < b then -1 else if b < a then 1 else 0
theorem nan_intR (a : Int) (w : World) : Calls Tryz.prog 119 #[.int .i64 a] w fun e w' => e = .returned (.bool false) ∧ w' = w := by
  go_enter Tryz.func119, Tryz.ntmps119
  go_wp2_with fail
  go_ret
  exact ⟨ret_bool (by simp), rfl⟩
theorem cmp_intR (a b : Int) (w : World) : Calls Tryz.prog 95 #[.int .i64 a, .int .i64 b] w fun e w' => e = .returned (.int .i64 (cmpR a b)) ∧ w' = w := by
  unfold cmpR
  rcases Int.lt_trichotomy a b with h | h | h
  · rw [if_pos h]
    go_enter Tryz.func95, Tryz.ntmps95
    go_wp2_with (go_at_call 119; refine (nan_intR _ _).mono ?_; rintro e w' ⟨rfl, rfl⟩)
    go_ret
    exact ⟨rfl, rfl⟩
  · subst h
    rw [if_neg (by omega), if_neg (by omega)]
    go_enter Tryz.func95, Tryz.ntmps95
    go_wp2_with (go_at_call 119; refine (nan_intR _ _).mono ?_; rintro e w' ⟨rfl, rfl⟩)
    go_ret
    exact ⟨rfl, rfl⟩
  · rw [if_neg (by omega), if_pos h]
    have h2 : ¬ a < b := by omega
    go_enter Tryz.func95, Tryz.ntmps95
    go_wp2_with (go_at_call 119; refine (nan_intR _ _).mono ?_; rintro e w' ⟨rfl, rfl⟩)
    go_ret
    exact ⟨rfl, rfl⟩
theorem flatMap_at {α : Type} [Inhabited α] (enc : α → List Value) (k : Nat) (hk : ∀ x, (enc x).length = k) (hk0 : 0 < k) : ∀ (xs : List α) (t : Nat), t < xs.length * k → (xs.flatMap enc)[t]? = (enc (xs.getD (t / k) default))[t % k]?
  | [], t, h => by simp at h
  | x :: r, t, h => by
    rw [List.flatMap_cons]
    by_cases ht : t < k
    · rw [List.getElem?_append_left (by rw [hk]; exact ht), Nat.div_eq_of_lt ht, Nat.mod_eq_of_lt ht]; rfl
    · rw [List.getElem?_append_right (by rw [hk]; omega), hk, flatMap_at enc k hk hk0 r (t - k) (by rw [List.length_cons, Nat.add_mul, Nat.one_mul] at h; omega)]
      obtain ⟨u, rfl⟩ : ∃ u, t = u + k := ⟨t - k, by omega⟩
      rw [Nat.add_sub_cancel, Nat.add_div_right _ hk0, Nat.add_mod_right]; rfl
def encM (m : Mem) : List Value := [.int .i64 m.1, .bool m.2.1, .bool m.2.2]
abbrev memV (m : Mem) : Value := .agg #[.int .i64 m.1, .bool m.2.1, .bool m.2.2]
instance : Inhabited Mem := ⟨(0, false, false)⟩
theorem Tryz.infoMb : (Tryz.prog.info? 71).map (fun i => (i.zero, i.size, i.bytes)) = some (some (memV (0, false, false)), 3, 16) := by kernel_rfl
/-- a row of members of the call's own -/
def OwnM (base : Nat) (W : World) (v : Value) (xs : List Mem) : Prop := W.ownsRow base 71 3 v xs.length (xs.flatMap encM)
theorem ownM_nil (base : Nat) (w : World) : OwnM base w (.slice none 0 0) [] := World.ownsRow_nil _ _ _ _
theorem ownM_kept {base : Nat} {w W : World} {v : Value} {xs : List Mem} (h : OwnM base w v xs) (hs : ∀ g, v.ownBlock = some g → W.heap[g]? = w.heap[g]?) : OwnM base W v xs := row_same h hs
theorem ownM_snoc {base : Nat} {w : World} {v : Value} {xs : List Mem} {x : Mem} (h : w.ownsRow base 71 3 v (xs.length + 1) (xs.flatMap encM ++ encM x)) : OwnM base w v (xs ++ [x]) := by
  unfold OwnM; rw [List.length_append, List.flatMap_append]; simpa using h
theorem ownM_base {W : World} {base base' : Nat} {v : Value} {xs : List Mem} (h : OwnM base W v xs) (hb : base' ≤ base) : OwnM base' W v xs := by
  obtain ⟨h1, h2⟩ := h
  refine ⟨h1, ?_⟩
  rcases h2 with h2 | ⟨g, cap, cur, h3, h4, h5⟩
  · exact .inl h2
  · exact .inr ⟨g, cap, cur, h3, by omega, h5⟩
/-- what a slice of members reads -/
def ReadsM (w : World) (A : Option Addr) (xs : List Mem) : Prop := 0 < xs.length → ∃ g o, A = some ⟨g, o, none⟩ ∧ g < w.heap.size ∧ ∀ j (h : j < xs.length), w.cell? ⟨g, o + j * 3, none⟩ = some (.int .i64 xs[j].1) ∧ w.cell? ⟨g, o + j * 3 + 1, none⟩ = some (.bool xs[j].2.1) ∧ w.cell? ⟨g, o + j * 3 + 2, none⟩ = some (.bool xs[j].2.2)
theorem reads_ownM {base : Nat} {w : World} {A : Option Addr} {n c : Nat} {xs : List Mem} (h : OwnM base w (.slice A n c) xs) : ReadsM w A xs := fun h0 => by
  have h' := h
  rcases h.2 with ⟨h1, h2⟩ | ⟨g, cap, cur, h1, h3, h4, h5, _, h6, h7⟩
  · omega
  · injection h1 with q1 q2 q3
    subst q1
    have hadd : ∀ j, (⟨g, 0, none⟩ : Addr).add j = ⟨g, 0 + j, none⟩ := fun j => by
      unfold Addr.add
      split
      · simp_all
      · rfl
    have key : ∀ t u, (xs.flatMap encM)[t]? = some u → w.cell? ⟨g, 0 + t, none⟩ = some u := fun t u ht => by
      have := h'.cells (g := g) rfl t u ht
      rwa [hadd] at this
    have one : ∀ j (hj : j < xs.length) i (hi : i < 3) u, (encM xs[j])[i]? = some u → w.cell? ⟨g, 0 + j * 3 + i, none⟩ = some u := fun j hj i hi u hu => by
      rw [Nat.add_assoc]
      refine key _ _ ?_
      rw [flatMap_at encM 3 (fun _ => rfl) (by decide) xs (j * 3 + i) (by omega), show (j * 3 + i) / 3 = j by omega, show (j * 3 + i) % 3 = i by omega]
      simpa [List.getD, hj] using hu
    exact ⟨g, 0, rfl, blk_lt h4, fun j hj => ⟨one j hj 0 (by decide) _ rfl, one j hj 1 (by decide) _ rfl, one j hj 2 (by decide) _ rfl⟩⟩
theorem ReadsM.below {w W : World} {A : Option Addr} {xs : List Mem} (h : ReadsM w A xs) {n : Nat} (hb : RowKit.Below n w W) (hn : w.heap.size ≤ n := by exact Nat.le_refl _) : ReadsM W A xs := fun h0 => by
  obtain ⟨g, o, h1, h2, h3⟩ := h h0
  have k : ∀ i, W.cell? ⟨g, i, none⟩ = w.cell? ⟨g, i, none⟩ := fun i => World.cell?_of_block (w := w) (w' := W) (a := ⟨g, i, none⟩) (hb.block g (Nat.lt_of_lt_of_le h2 hn))
  exact ⟨g, o, h1, Nat.lt_of_lt_of_le h2 hb.size, fun j hj => by rw [k, k, k]; exact h3 j hj⟩
set_option maxHeartbeats 1000000 in
theorem place_cmp (m : Mem) (id : Int) (w : World) :
    Calls Tryz.prog 94 #[memV m, .int .i64 id] w fun e w' => e = .returned (.int .i64 (cmpR m.1 id)) ∧ RowKit.Below w.heap.size w w' := by
  have HC := Lib.hid (fun W => cmp_intR m.1 id W)
  obtain ⟨c, hc⟩ : ∃ c, cmpR m.1 id = c := ⟨_, rfl⟩
  rw [hc] at HC ⊢
  clear hc
  go_enter Tryz.func94, Tryz.ntmps94
  go_wp2_with (go_at_call 95; refine (HC.out _).mono ?_; rintro e w' ⟨rfl, rfl⟩)
  go_ret
  exact ⟨rfl, by first | exact Below.refl _ _ | exact (Below.refl _ _).alloc (Nat.le_refl _) _⟩
theorem cmpM_neg {a b : Int} : cmpR a b < 0 ↔ a < b := by unfold cmpR; split <;> (try split) <;> omega
theorem cmpM_eq {a b : Int} : cmpR a b = 0 ↔ a = b := by unfold cmpR; split <;> (try split) <;> omega
set_option maxHeartbeats 4000000 in
set_option maxRecDepth 1000000 in
theorem search_any (A : Option Addr) (c : Nat) (xs : List Mem) (hu : UpM xs) (id : Int) (w : World) (hR : ReadsM w A xs) (hl : xs.length ≤ 1000000) :
    Calls Tryz.prog 93 #[.slice A xs.length c, .int .i64 id, .func (.func 94) #[] #[]] w fun e w' => e = .returned (.tuple #[.int .i64 (ixM xs id), .bool (hasM xs id)]) ∧ RowKit.Below w.heap.size w w' := by
  have HR := Lib.hid hR
  have HU := Lib.hid hu
  have H0 : Hid (RowKit.Below w.heap.size w w) := Below.refl _ _
  obtain ⟨p, hp⟩ : ∃ p, ixM xs id = p := ⟨_, rfl⟩
  obtain ⟨b, hb⟩ : ∃ b, hasM xs id = b := ⟨_, rfl⟩
  rw [hp, hb]
  have HP := Lib.hid (And.intro hp hb)
  clear hR hu hp hb
  go_enter Tryz.func93, Tryz.ntmps93
  go_wp2_with fail
  go_loopg [9, 10] xs.length (fun kx s9 s10 wr => ∃ lo hi : Nat, s9 = .int .i64 lo ∧ s10 = .int .i64 hi ∧ lo ≤ hi ∧ hi ≤ xs.length ∧ hi - lo ≤ kx ∧ Hid (RowKit.Below w.heap.size w wr) ∧ Hid ((∀ t (h : t < xs.length), t < lo → xs[t].1 < id) ∧ (∀ t (h : t < xs.length), hi ≤ t → id ≤ xs[t].1)))
  case atStart => exact ⟨0, xs.length, rfl, rfl, Nat.zero_le _, Nat.le_refl _, by omega, H0, fun t _ ht => absurd ht (Nat.not_lt_zero _), fun t h1 h2 => by omega⟩
  case round =>
    clear H0
    obtain ⟨lo, hi, rfl, rfl, hlh, hin, hg, S1, I⟩ := hrel
    by_cases hlt : lo < hi
    · obtain ⟨g, o, rfl, hgl, hc⟩ := HR.out (by omega)
      have hm : (lo + hi) / 2 < xs.length := by omega
      obtain ⟨q0, q1, q2⟩ := hc _ hm
      have k : ∀ i, wr.cell? ⟨g, i, none⟩ = w.cell? ⟨g, i, none⟩ := fun i => World.cell?_of_block (w := w) (w' := wr) (a := ⟨g, i, none⟩) (S1.out.block g hgl)
      rw [← k] at q0 q1 q2
      obtain ⟨y, hy⟩ : ∃ y, xs[(lo + hi) / 2] = y := ⟨_, rfl⟩
      rw [hy] at q0 q1 q2
      have Y := Lib.hid hy
      have hcall := fun W => place_cmp y id W
      obtain ⟨c2, hc2⟩ : ∃ c2, cmpR y.1 id = c2 := ⟨_, rfl⟩
      rw [hc2] at hcall
      have HCALL := Lib.hid hcall
      by_cases hyx : y.1 < id
      · have hneg : c2 < 0 := by rw [← hc2]; exact cmpM_neg.2 hyx
        have HYX := Lib.hid hyx
        clear hc k hy hcall hc2 hyx hgl
        go_wp2_with fail
        refine (HCALL.out _).mono ?_
        rintro e w1 ⟨rfl, hb⟩
        have S2 : Hid (RowKit.Below w.heap.size w w1) := S1.out.trans (hb.mono S1.out.size)
        clear hb q0 q1 q2
        go_wp2_with fail
        go_roundg (hi - ((lo + hi) / 2 + 1))
        case measure => omega
        case rel =>
          have I2 : Hid ((∀ t (h : t < xs.length), t < (lo + hi) / 2 + 1 → xs[t].1 < id) ∧ (∀ t (h : t < xs.length), hi ≤ t → id ≤ xs[t].1)) := ⟨fun t h ht => by
            rcases Nat.lt_or_ge t ((lo + hi) / 2) with e | e
            · have h1 := List.pairwise_iff_getElem.1 HU.out t ((lo + hi) / 2) h hm e
              have h2 := HYX.out
              rw [← Y.out] at h2
              omega
            · have e1 : t = (lo + hi) / 2 := by omega
              have h2 := HYX.out
              rw [← Y.out] at h2
              simp only [e1]; exact h2, I.out.2⟩
          exact ⟨(lo + hi) / 2 + 1, hi, by rw [show ((lo : Int) + (hi : Int)) / 2 + 1 = (((lo + hi) / 2 + 1 : Nat) : Int) by omega], rfl, by omega, hin, Nat.le_refl _, S2, I2⟩
      · have hneg : ¬ c2 < 0 := by rw [← hc2]; exact fun h => hyx (cmpM_neg.1 h)
        have HYX := Lib.hid hyx
        clear hc k hy hcall hc2 hyx hgl
        go_wp2_with fail
        refine (HCALL.out _).mono ?_
        rintro e w1 ⟨rfl, hb⟩
        have S2 : Hid (RowKit.Below w.heap.size w w1) := S1.out.trans (hb.mono S1.out.size)
        clear hb q0 q1 q2
        go_wp2_with fail
        go_roundg ((lo + hi) / 2 - lo)
        case measure => omega
        case rel =>
          have I2 : Hid ((∀ t (h : t < xs.length), t < lo → xs[t].1 < id) ∧ (∀ t (h : t < xs.length), (lo + hi) / 2 ≤ t → id ≤ xs[t].1)) := ⟨I.out.1, fun t h ht => by
            have h2 := HYX.out
            rw [← Y.out] at h2
            rcases Nat.lt_or_ge ((lo + hi) / 2) t with e | e
            · have h1 := List.pairwise_iff_getElem.1 HU.out ((lo + hi) / 2) t hm h e
              omega
            · have e1 : t = (lo + hi) / 2 := by omega
              simp only [e1]; omega⟩
          exact ⟨lo, (lo + hi) / 2, rfl, by rw [show ((lo : Int) + (hi : Int)) / 2 = (((lo + hi) / 2 : Nat) : Int) by omega], by omega, by omega, Nat.le_refl _, S2, I2⟩
    · obtain rfl : hi = lo := by omega
      have hix : ixM xs id = hi := by
        have h1 := ixM_le xs id
        rcases Nat.lt_trichotomy (ixM xs id) hi with e | e | e
        · have := (ixM_cut HU.out id (ixM xs id) (by omega)).2 (I.out.1 _ (by omega) e)
          omega
        · exact e
        · have h3 := (ixM_cut HU.out id hi (by omega)).1 e
          have h4 := I.out.2 hi (by omega) (Nat.le_refl _)
          omega
      have hph : p = hi := by rw [← HP.out.1]; exact hix
      subst hph
      by_cases hn : p < xs.length
      · obtain ⟨g, o, rfl, hgl, hc⟩ := HR.out (by omega)
        obtain ⟨q0, q1, q2⟩ := hc _ hn
        have k : ∀ i, wr.cell? ⟨g, i, none⟩ = w.cell? ⟨g, i, none⟩ := fun i => World.cell?_of_block (w := w) (w' := wr) (a := ⟨g, i, none⟩) (S1.out.block g hgl)
        rw [← k] at q0 q1 q2
        have hbb : b = decide (xs[p].1 = id) := by
          rw [← HP.out.2, Bool.eq_iff_iff, hasM_at HU.out, decide_eq_true_eq]
          constructor
          · rintro ⟨h2, e⟩; simp only [hix] at e; exact e
          · intro e; exact ⟨by omega, by simp only [hix]; exact e⟩
        obtain ⟨y, hy⟩ : ∃ y, xs[p] = y := ⟨_, rfl⟩
        rw [hy] at q0 q1 q2 hbb
        have hcall := fun W => place_cmp y id W
        obtain ⟨c2, hc2⟩ : ∃ c2, cmpR y.1 id = c2 := ⟨_, rfl⟩
        rw [hc2] at hcall
        have HCALL := Lib.hid hcall
        have hbc : b = (c2 == 0) := by rw [hbb, Bool.eq_iff_iff, decide_eq_true_eq, beq_iff_eq, ← hc2]; exact cmpM_eq.symm
        have HBC := Lib.hid hbc
        clear hc k hy hcall hc2 hgl hbb hbc hix
        go_wp2_with fail
        refine (HCALL.out _).mono ?_
        rintro e w1 ⟨rfl, hb⟩
        have S2 : Hid (RowKit.Below w.heap.size w w1) := S1.out.trans (hb.mono S1.out.size)
        clear hb q0 q1 q2
        go_wp2_with fail
        go_ret2
        exact ⟨by rw [HBC.out]; rfl, S2.out⟩
      · have hbb : b = false := by
          rw [← HP.out.2, ← Bool.not_eq_true, hasM_at HU.out]
          rintro ⟨h2, _⟩; omega
        subst hbb
        clear hix
        go_wp2_with fail
        go_ret2
        exact ⟨rfl, S1.out⟩
/-- where somebody stands, or would stand -/
theorem place_nil (id : Int) (w : World) : Calls Tryz.prog 67 #[.pointer none, .int .i64 id] w fun e w' => e = .returned (.tuple #[.int .i64 0, .bool false]) ∧ w' = w := by
  go_enter Tryz.func67, Tryz.ntmps67
  go_wp2_with fail
  go_ret2
  exact ⟨rfl, rfl⟩
end Go.Proofs.YtlkeomcillencaaGreat
end
