/- Texts of this proof, one behind the other. -/
import Derived.Test.YtpbobonddocgkaaGreatDoorCoreOnceG1
import Derived.Deep.RegionHeld3
import Derived.Deep.DrawnRows
import Derived.WalkKit
set_option linter.unusedVariables false
set_option linter.unusedSimpArgs false
section
/- Layer 16, mathematics: connections, and the three tables that stand for them. -/
namespace Go.Proofs.YtpbobonddocgkaaGreatDoor
open Go

abbrev Tab := List (Int × Int)
theorem mem_delT {T : Tab} {k : Int} {p : Int × Int} : p ∈ delM T k ↔ p ∈ T ∧ p.1 ≠ k := by simp [delM]
theorem mem_setT {T : Tab} {k v : Int} {p : Int × Int} : p ∈ setM T k v ↔ (p ∈ T ∧ p.1 ≠ k) ∨ p = (k, v) := by simp [setM]
theorem lookM_mem {T : Tab} (h : (T.map (·.1)).Nodup) {k v : Int} : lookM T k = some v ↔ (k, v) ∈ T := by
  unfold lookM
  induction T with
  | nil => simp
  | cons a r ih =>
    rw [List.map_cons, List.nodup_cons] at h
    have ih := ih h.2
    by_cases e : a.1 = k
    · rw [List.find?_cons_of_pos (by simpa using e)]
      simp only [Option.map_some, Option.some.injEq, List.mem_cons]
      constructor
      · intro hv; left; rw [← e, ← hv]
      · rintro (hv | hv)
        · rw [← hv]
        · exact (h.1 (by rw [e]; exact List.mem_map.2 ⟨(k, v), hv, rfl⟩)).elim
    · rw [List.find?_cons_of_neg (by simpa using e), ih, List.mem_cons]
      constructor
      · exact .inr
      · rintro (hv | hv)
        · exact (e (by rw [← hv])).elim
        · exact hv
theorem lookM_isSome {T : Tab} {k : Int} : (lookM T k).isSome = true ↔ ∃ v, (k, v) ∈ T := by
  unfold lookM
  rw [Option.isSome_map, List.find?_isSome]
  constructor
  · rintro ⟨⟨a, b⟩, hp, e⟩
    simp at e; subst e; exact ⟨b, hp⟩
  · rintro ⟨v, hv⟩
    exact ⟨_, hv, by simp⟩

/-- a connection: its number, its tick, whether it is in, whether it was asked -/
structure Cn where
  id : Int
  at_ : Int
  inn : Bool
  ask : Bool
/-- the three tables are of these connections -/
structure RelP (pg gr rg : Int) (C : List Cn) (L Q A : Tab) : Prop where
  ids : (C.map (·.id)).Nodup
  nl : (L.map (·.1)).Nodup
  nq : (Q.map (·.1)).Nodup
  na : (A.map (·.1)).Nodup
  l : ∀ i v, (i, v) ∈ L ↔ ∃ c ∈ C, c.id = i ∧ c.inn = false ∧ v = c.at_ + rg
  q : ∀ i v, (i, v) ∈ Q ↔ ∃ c ∈ C, c.id = i ∧ c.inn = true ∧ c.ask = false ∧ v = c.at_ + pg
  a : ∀ i v, (i, v) ∈ A ↔ ∃ c ∈ C, c.id = i ∧ c.inn = true ∧ c.ask = true ∧ v = c.at_ + pg + gr
/-- at which tick somebody's last line came -/
def tickM (pg gr rg : Int) (L Q A : Tab) (id : Int) : Option Int :=
  match lookM L id with
  | some v => some (v - rg)
  | none => match lookM Q id with
    | some v => some (v - pg)
    | none => match lookM A id with
      | some v => some (v - gr - pg)
      | none => none
def findC (C : List Cn) (id : Int) : Option Cn := C.find? fun c => decide (c.id = id)
theorem findC_some {C : List Cn} (h : (C.map (·.id)).Nodup) {id : Int} {c : Cn} : findC C id = some c ↔ c ∈ C ∧ c.id = id := by
  unfold findC
  constructor
  · intro hf
    have := List.find?_some hf
    exact ⟨List.mem_of_find?_eq_some hf, by simpa using this⟩
  · rintro ⟨hc, rfl⟩
    induction C with
    | nil => cases hc
    | cons a r ih =>
      rw [List.map_cons, List.nodup_cons] at h
      rcases List.mem_cons.1 hc with rfl | hc2
      · rw [List.find?_cons_of_pos (by simp)]
      · rw [List.find?_cons_of_neg, ih h.2 hc2]
        simp
        exact fun e => h.1 (by rw [e]; exact List.mem_map_of_mem hc2)
theorem findC_none {C : List Cn} {id : Int} : findC C id = none ↔ ∀ c ∈ C, c.id ≠ id := by
  unfold findC; rw [List.find?_eq_none]; simp
theorem id_injC {C : List Cn} (h : (C.map (·.id)).Nodup) {a b : Cn} (ha : a ∈ C) (hb : b ∈ C) (e : a.id = b.id) : a = b := by
  have h1 := (findC_some h).2 ⟨ha, rfl⟩
  have h2 := (findC_some h).2 ⟨hb, rfl⟩
  rw [e, h2] at h1
  exact (Option.some.inj h1).symm
theorem lookM_eq_none {T : Tab} {k : Int} : lookM T k = none ↔ ∀ v, (k, v) ∉ T := by
  rw [← Option.not_isSome_iff_eq_none, lookM_isSome]; simp
theorem RelP.tick {pg gr rg : Int} {C : List Cn} {L Q A : Tab} (h : RelP pg gr rg C L Q A) (id : Int) : tickM pg gr rg L Q A id = (findC C id).map (·.at_) := by
  unfold tickM
  cases hf : findC C id with
  | none =>
    rw [findC_none] at hf
    rw [lookM_eq_none.2 (fun v hv => by obtain ⟨c, h1, h2, _⟩ := (h.l _ _).1 hv; exact hf c h1 h2), lookM_eq_none.2 (fun v hv => by obtain ⟨c, h1, h2, _⟩ := (h.q _ _).1 hv; exact hf c h1 h2), lookM_eq_none.2 (fun v hv => by obtain ⟨c, h1, h2, _⟩ := (h.a _ _).1 hv; exact hf c h1 h2)]
    rfl
  | some c =>
    obtain ⟨hc, rfl⟩ := (findC_some h.ids).1 hf
    cases hi : c.inn with
    | false =>
      rw [(lookM_mem h.nl).2 ((h.l _ _).2 ⟨c, hc, rfl, hi, rfl⟩)]
      simp <;> omega
    | true =>
      rw [lookM_eq_none.2 (fun v hv => by obtain ⟨d, h1, h2, h3, _⟩ := (h.l _ _).1 hv; rw [id_injC h.ids h1 hc h2, hi] at h3; cases h3)]
      cases ha : c.ask with
      | false =>
        rw [(lookM_mem h.nq).2 ((h.q _ _).2 ⟨c, hc, rfl, hi, ha, rfl⟩)]
        simp <;> omega
      | true =>
        rw [lookM_eq_none.2 (fun v hv => by obtain ⟨d, h1, h2, _, h3, _⟩ := (h.q _ _).1 hv; rw [id_injC h.ids h1 hc h2, ha] at h3; cases h3)]
        rw [(lookM_mem h.na).2 ((h.a _ _).2 ⟨c, hc, rfl, hi, ha, rfl⟩)]
        simp <;> omega
theorem RelP.late {pg gr rg : Int} {C : List Cn} {L Q A : Tab} (h : RelP pg gr rg C L Q A) (id : Int) : (lookM L id).isSome = (match findC C id with | some c => !c.inn | none => false) := by
  cases hf : findC C id with
  | none =>
    rw [findC_none] at hf
    rw [lookM_eq_none.2 (fun v hv => by obtain ⟨c, h1, h2, _⟩ := (h.l _ _).1 hv; exact hf c h1 h2)]; rfl
  | some c =>
    obtain ⟨hc, rfl⟩ := (findC_some h.ids).1 hf
    cases hi : c.inn with
    | false => rw [(lookM_mem h.nl).2 ((h.l _ _).2 ⟨c, hc, rfl, hi, rfl⟩)]; simp [hi]
    | true =>
      rw [lookM_eq_none.2 (fun v hv => by obtain ⟨d, h1, h2, h3, _⟩ := (h.l _ _).1 hv; rw [id_injC h.ids h1 hc h2, hi] at h3; cases h3)]; simp [hi]
def leaveC (C : List Cn) (id : Int) : List Cn := C.filter fun c => decide (c.id ≠ id)
def joinC (C : List Cn) (id now : Int) : List Cn := leaveC C id ++ [⟨id, now, false, false⟩]
def regC (C : List Cn) (id now : Int) : List Cn := C.map fun c => if c.id = id then ⟨id, now, true, false⟩ else c
def lineC (C : List Cn) (id now : Int) : List Cn := C.map fun c => if c.id = id ∧ c.inn = true then ⟨id, now, true, false⟩ else c
theorem mem_leaveC {C : List Cn} {id : Int} {c : Cn} : c ∈ leaveC C id ↔ c ∈ C ∧ c.id ≠ id := by simp [leaveC]
theorem RelP.leave {pg gr rg : Int} {C : List Cn} {L Q A : Tab} (h : RelP pg gr rg C L Q A) (id : Int) : RelP pg gr rg (leaveC C id) (delM L id) (delM Q id) (delM A id) where
  ids := h.ids.sublist ((List.filter_sublist).map _)
  nl := nodup_delM h.nl id
  nq := nodup_delM h.nq id
  na := nodup_delM h.na id
  l i v := by
    rw [mem_delT, h.l]
    constructor
    · rintro ⟨⟨c, h1, h2, h3⟩, h4⟩; exact ⟨c, mem_leaveC.2 ⟨h1, by rw [h2]; exact h4⟩, h2, h3⟩
    · rintro ⟨c, h1, h2, h3⟩; obtain ⟨h1, h4⟩ := mem_leaveC.1 h1; exact ⟨⟨c, h1, h2, h3⟩, by rw [h2] at h4; exact h4⟩
  q i v := by
    rw [mem_delT, h.q]
    constructor
    · rintro ⟨⟨c, h1, h2, h3⟩, h4⟩; exact ⟨c, mem_leaveC.2 ⟨h1, by rw [h2]; exact h4⟩, h2, h3⟩
    · rintro ⟨c, h1, h2, h3⟩; obtain ⟨h1, h4⟩ := mem_leaveC.1 h1; exact ⟨⟨c, h1, h2, h3⟩, by rw [h2] at h4; exact h4⟩
  a i v := by
    rw [mem_delT, h.a]
    constructor
    · rintro ⟨⟨c, h1, h2, h3⟩, h4⟩; exact ⟨c, mem_leaveC.2 ⟨h1, by rw [h2]; exact h4⟩, h2, h3⟩
    · rintro ⟨c, h1, h2, h3⟩; obtain ⟨h1, h4⟩ := mem_leaveC.1 h1; exact ⟨⟨c, h1, h2, h3⟩, by rw [h2] at h4; exact h4⟩
theorem delM_nodel {T : Tab} {k v : Int} : setM (delM T k) k v = setM T k v := by
  unfold setM delM
  rw [List.filter_filter]
  simp
theorem RelP.join {pg gr rg : Int} {C : List Cn} {L Q A : Tab} (h : RelP pg gr rg C L Q A) (id now : Int) : RelP pg gr rg (joinC C id now) (setM L id (now + rg)) (delM Q id) (delM A id) := by
  have hL := h.leave id
  refine ⟨?_, nodup_setM h.nl _ _, hL.nq, hL.na, fun i v => ?_, fun i v => ?_, fun i v => ?_⟩
  · unfold joinC
    rw [List.map_append, List.nodup_append]
    refine ⟨hL.ids, by simp, fun a ha b hb => ?_⟩
    obtain ⟨c, hc, rfl⟩ := List.mem_map.1 ha
    simp at hb
    rw [hb]; exact (mem_leaveC.1 hc).2
  · rw [← delM_nodel, mem_setT, hL.l]
    unfold joinC
    constructor
    · rintro (⟨⟨c, h1, h2, h3⟩, h4⟩ | h4)
      · exact ⟨c, List.mem_append_left _ h1, h2, h3⟩
      · injection h4 with e1 e2
        exact ⟨_, List.mem_append_right _ (List.mem_singleton.2 rfl), e1.symm, rfl, e2⟩
    · rintro ⟨c, h1, h2, h3⟩
      rcases List.mem_append.1 h1 with h1 | h1
      · exact .inl ⟨⟨c, h1, h2, h3⟩, by rw [← h2]; exact (mem_leaveC.1 h1).2⟩
      · obtain rfl := List.mem_singleton.1 h1
        right; rw [← h2, h3.2]
  · rw [hL.q]
    unfold joinC
    constructor
    · rintro ⟨c, h1, h2⟩; exact ⟨c, List.mem_append_left _ h1, h2⟩
    · rintro ⟨c, h1, h2⟩
      rcases List.mem_append.1 h1 with h1 | h1
      · exact ⟨c, h1, h2⟩
      · obtain rfl := List.mem_singleton.1 h1; cases h2.2.1
  · rw [hL.a]
    unfold joinC
    constructor
    · rintro ⟨c, h1, h2⟩; exact ⟨c, List.mem_append_left _ h1, h2⟩
    · rintro ⟨c, h1, h2⟩
      rcases List.mem_append.1 h1 with h1 | h1
      · exact ⟨c, h1, h2⟩
      · obtain rfl := List.mem_singleton.1 h1; cases h2.2.1
theorem regC_ids (C : List Cn) (id now : Int) : (regC C id now).map (·.id) = C.map (·.id) := by
  unfold regC
  rw [List.map_map]
  apply List.map_congr_left
  intro c _
  simp only [Function.comp]
  split
  · rename_i e; exact e.symm
  · rfl
theorem mem_regC {C : List Cn} {id now : Int} {c : Cn} (h : c ∈ regC C id now) : (c ∈ C ∧ c.id ≠ id) ∨ (c = ⟨id, now, true, false⟩ ∧ ∃ d ∈ C, d.id = id) := by
  obtain ⟨d, hd, rfl⟩ := List.mem_map.1 h
  by_cases e : d.id = id
  · rw [if_pos e]; exact .inr ⟨rfl, d, hd, e⟩
  · rw [if_neg e]; exact .inl ⟨hd, e⟩
theorem regC_mem {C : List Cn} {id now : Int} {c : Cn} (h : c ∈ C) (hn : c.id ≠ id) : c ∈ regC C id now := List.mem_map.2 ⟨c, h, if_neg hn⟩
theorem regC_new {C : List Cn} {id now : Int} {c : Cn} (h : c ∈ C) (hn : c.id = id) : (⟨id, now, true, false⟩ : Cn) ∈ regC C id now := List.mem_map.2 ⟨c, h, if_pos hn⟩
theorem RelP.reg {pg gr rg : Int} {C : List Cn} {L Q A : Tab} (h : RelP pg gr rg C L Q A) (id now : Int) {c0 : Cn} (hc0 : c0 ∈ C) (hid : c0.id = id) : RelP pg gr rg (regC C id now) (delM L id) (setM Q id (now + pg)) (delM A id) := by
  refine ⟨by rw [regC_ids]; exact h.ids, nodup_delM h.nl _, nodup_setM h.nq _ _, nodup_delM h.na _, fun i v => ?_, fun i v => ?_, fun i v => ?_⟩
  · rw [mem_delT, h.l]
    constructor
    · rintro ⟨⟨c, h1, h2, h3⟩, h4⟩
      exact ⟨c, regC_mem h1 (by rw [h2]; exact h4), h2, h3⟩
    · rintro ⟨c, h1, h2, h3⟩
      rcases mem_regC h1 with ⟨h5, h6⟩ | ⟨rfl, _⟩
      · exact ⟨⟨c, h5, h2, h3⟩, by rw [← h2]; exact h6⟩
      · cases h3.1
  · rw [mem_setT, h.q]
    constructor
    · rintro (⟨⟨c, h1, h2, h3⟩, h4⟩ | h4)
      · exact ⟨c, regC_mem h1 (by rw [h2]; exact h4), h2, h3⟩
      · injection h4 with e1 e2
        exact ⟨_, regC_new hc0 hid, e1.symm, rfl, rfl, e2⟩
    · rintro ⟨c, h1, h2, h3⟩
      rcases mem_regC h1 with ⟨h5, h6⟩ | ⟨rfl, _⟩
      · exact .inl ⟨⟨c, h5, h2, h3⟩, by rw [← h2]; exact h6⟩
      · right; rw [← h2, h3.2.2]
  · rw [mem_delT, h.a]
    constructor
    · rintro ⟨⟨c, h1, h2, h3⟩, h4⟩
      exact ⟨c, regC_mem h1 (by rw [h2]; exact h4), h2, h3⟩
    · rintro ⟨c, h1, h2, h3⟩
      rcases mem_regC h1 with ⟨h5, h6⟩ | ⟨rfl, _⟩
      · exact ⟨⟨c, h5, h2, h3⟩, by rw [← h2]; exact h6⟩
      · cases h3.2.1
theorem regC_none {C : List Cn} {id now : Int} (h : ∀ c ∈ C, c.id ≠ id) : regC C id now = C := by
  unfold regC
  rw [List.map_congr_left (g := _root_.id) (fun c hc => by rw [if_neg (h c hc)]; rfl)]
  simp
theorem lineC_eq {C : List Cn} (hd : (C.map (·.id)).Nodup) (id now : Int) : lineC C id now = match findC C id with | some c => (if c.inn = true then regC C id now else C) | none => C := by
  cases hf : findC C id with
  | none =>
    rw [findC_none] at hf
    unfold lineC
    rw [List.map_congr_left (g := _root_.id) (fun c hc => by rw [if_neg (fun e => hf c hc e.1)]; rfl)]
    simp
  | some c =>
    obtain ⟨hc, e⟩ := (findC_some hd).1 hf
    simp only
    split
    · rename_i hi
      unfold lineC regC
      apply List.map_congr_left
      intro d hdC
      by_cases e2 : d.id = id
      · have := id_injC hd hdC hc (by rw [e2, e])
        subst this
        rw [if_pos ⟨e2, hi⟩, if_pos e2]
      · rw [if_neg (fun h => e2 h.1), if_neg e2]
    · rename_i hi
      unfold lineC
      rw [List.map_congr_left (g := _root_.id) (fun d hdC => by
        rw [if_neg]; rfl
        rintro ⟨e1, e2⟩
        exact hi (by rw [← id_injC hd hdC hc (by rw [e1, e])]; exact e2))]
      simp
/-- what is due of a connection -/
def whatC (pg gr rg now : Int) (c : Cn) : Int :=
  if c.inn = true then (if pg + gr ≤ now - c.at_ then 3 else if pg ≤ now - c.at_ ∧ c.ask = false then 2 else 0) else if rg ≤ now - c.at_ then 1 else 0
def askC (pg gr rg now : Int) (c : Cn) : Cn := if whatC pg gr rg now c = 2 then ⟨c.id, c.at_, c.inn, true⟩ else c
def dueC (pg gr rg now : Int) (C : List Cn) : List Cn := C.map (askC pg gr rg now)
/-- what the program does with one to whom no ping went out -/
def stepQ (gr now : Int) (Q : Tab) (p : Int × Int) : Tab := if p.2 + gr ≤ now then Q else delM Q p.1
def stepA (gr now : Int) (A : Tab) (p : Int × Int) : Tab := if p.2 + gr ≤ now then A else setM A p.1 (p.2 + gr)
def rowQ (gr now : Int) (p : Int × Int) : Int × Int := (p.1, if p.2 + gr ≤ now then 3 else 2)
theorem mem_takeQ (gr now : Int) : ∀ (pre Q : Tab) (p : Int × Int), p ∈ pre.foldl (stepQ gr now) Q ↔ p ∈ Q ∧ ∀ q ∈ pre, now < q.2 + gr → p.1 ≠ q.1
  | [], Q, p => by simp
  | q :: r, Q, p => by
    rw [List.foldl_cons, mem_takeQ gr now r]
    unfold stepQ
    by_cases h : q.2 + gr ≤ now
    · rw [if_pos h]
      simp only [List.mem_cons, forall_eq_or_imp]
      have : ¬ now < q.2 + gr := by omega
      simp [this]
    · rw [if_neg h, mem_delT]
      simp only [List.mem_cons, forall_eq_or_imp]
      have : now < q.2 + gr := by omega
      simp [this, and_assoc]
theorem mem_takeA (gr now : Int) : ∀ (pre A : Tab) (p : Int × Int), (pre.map (·.1)).Nodup → (p ∈ pre.foldl (stepA gr now) A ↔ (p ∈ A ∧ ∀ q ∈ pre, now < q.2 + gr → p.1 ≠ q.1) ∨ ∃ q ∈ pre, now < q.2 + gr ∧ p = (q.1, q.2 + gr))
  | [], A, p, _ => by simp
  | q :: r, A, p, hn => by
    rw [List.map_cons, List.nodup_cons] at hn
    rw [List.foldl_cons, mem_takeA gr now r _ _ hn.2]
    unfold stepA
    by_cases h : q.2 + gr ≤ now
    · rw [if_pos h]
      simp only [List.mem_cons, forall_eq_or_imp, exists_eq_or_imp]
      have : ¬ now < q.2 + gr := by omega
      simp [this]
    · rw [if_neg h, mem_setT]
      simp only [List.mem_cons, forall_eq_or_imp, exists_eq_or_imp]
      have hq : now < q.2 + gr := by omega
      simp only [hq, true_and, forall_const]
      constructor
      · rintro (⟨(⟨h1, h2⟩ | h1), h3⟩ | h1)
        · exact .inl ⟨h1, h2, h3⟩
        · exact .inr (.inl h1)
        · exact .inr (.inr h1)
      · rintro (⟨h1, h2, h3⟩ | h1 | h1)
        · exact .inl ⟨.inl ⟨h1, h2⟩, h3⟩
        · refine .inl ⟨.inr h1, fun q2 hq2 _ e => hn.1 (List.mem_map.2 ⟨q2, hq2, ?_⟩)⟩
          rw [← e, h1]
        · exact .inr h1
theorem nodup_takeQ (gr now : Int) : ∀ (pre Q : Tab), (Q.map (·.1)).Nodup → ((pre.foldl (stepQ gr now) Q).map (·.1)).Nodup
  | [], Q, h => h
  | q :: r, Q, h => by
    rw [List.foldl_cons]
    refine nodup_takeQ gr now r _ ?_
    unfold stepQ
    split
    · exact h
    · exact nodup_delM h _
theorem nodup_takeA (gr now : Int) : ∀ (pre A : Tab), (A.map (·.1)).Nodup → ((pre.foldl (stepA gr now) A).map (·.1)).Nodup
  | [], Q, h => h
  | q :: r, Q, h => by
    rw [List.foldl_cons]
    refine nodup_takeA gr now r _ ?_
    unfold stepA
    split
    · exact h
    · exact nodup_setM h _ _
theorem len_takeA (gr now : Int) : ∀ (pre A : Tab), (pre.foldl (stepA gr now) A).length ≤ A.length + pre.length
  | [], A => by simp
  | q :: r, A => by
    rw [List.foldl_cons, List.length_cons]
    refine Nat.le_trans (len_takeA gr now r _) ?_
    have : (stepA gr now A q).length ≤ A.length + 1 := by
      unfold stepA
      split
      · omega
      · unfold setM
        rw [List.length_append]
        have := List.length_filter_le (fun p : Int × Int => decide (p.1 ≠ q.1)) A
        simp only [List.length_singleton]
        omega
    omega
theorem askC_id (pg gr rg now : Int) (c : Cn) : (askC pg gr rg now c).id = c.id := by unfold askC; split <;> rfl
theorem dueC_ids (pg gr rg now : Int) (C : List Cn) : (dueC pg gr rg now C).map (·.id) = C.map (·.id) := by
  unfold dueC; rw [List.map_map]; exact List.map_congr_left fun c _ => askC_id pg gr rg now c
theorem what_two {pg gr rg now : Int} {c : Cn} : whatC pg gr rg now c = 2 ↔ c.inn = true ∧ c.ask = false ∧ pg ≤ now - c.at_ ∧ ¬ pg + gr ≤ now - c.at_ := by
  unfold whatC
  cases hi : c.inn <;> cases ha : c.ask <;> simp <;> (repeat' split) <;> simp <;> omega
theorem what_one {pg gr rg now : Int} {c : Cn} : whatC pg gr rg now c = 1 ↔ c.inn = false ∧ rg ≤ now - c.at_ := by
  unfold whatC
  cases hi : c.inn <;> cases ha : c.ask <;> simp <;> (repeat' split) <;> simp <;> omega
theorem what_three {pg gr rg now : Int} {c : Cn} : whatC pg gr rg now c = 3 ↔ c.inn = true ∧ pg + gr ≤ now - c.at_ := by
  unfold whatC
  cases hi : c.inn <;> cases ha : c.ask <;> simp <;> (repeat' split) <;> simp <;> omega
theorem what_any (pg gr rg now : Int) (c : Cn) : whatC pg gr rg now c = 0 ∨ whatC pg gr rg now c = 1 ∨ whatC pg gr rg now c = 2 ∨ whatC pg gr rg now c = 3 := by
  unfold whatC
  (repeat' split) <;> simp
theorem RelP.due {pg gr rg : Int} {C : List Cn} {L Q A : Tab} (h : RelP pg gr rg C L Q A) (now : Int) (hg : 0 ≤ gr) {pre : Tab} (hp : ∀ q, q ∈ pre ↔ q ∈ Q ∧ q.2 ≤ now) (hn : (pre.map (·.1)).Nodup) :
    RelP pg gr rg (dueC pg gr rg now C) L (pre.foldl (stepQ gr now) Q) (pre.foldl (stepA gr now) A) := by
  have asked : ∀ i, (∃ q ∈ pre, now < q.2 + gr ∧ i = q.1) ↔ ∃ c ∈ C, c.id = i ∧ whatC pg gr rg now c = 2 := fun i => by
    constructor
    · rintro ⟨q, h1, h2, rfl⟩
      obtain ⟨h3, h4⟩ := (hp q).1 h1
      obtain ⟨c, h5, h6, h7, h8, h9⟩ := (h.q q.1 q.2).1 h3
      exact ⟨c, h5, h6, what_two.2 ⟨h7, h8, by omega, by omega⟩⟩
    · rintro ⟨c, h1, h2, h3⟩
      obtain ⟨h4, h5, h6, h7⟩ := what_two.1 h3
      exact ⟨(i, c.at_ + pg), (hp _).2 ⟨(h.q _ _).2 ⟨c, h1, h2, h4, h5, rfl⟩, by simp; omega⟩, by simp; omega, rfl⟩
  have stays : ∀ c ∈ C, whatC pg gr rg now c ≠ 2 → c ∈ dueC pg gr rg now C := fun c hc hw => List.mem_map.2 ⟨c, hc, if_neg hw⟩
  have turns : ∀ c ∈ C, whatC pg gr rg now c = 2 → (⟨c.id, c.at_, c.inn, true⟩ : Cn) ∈ dueC pg gr rg now C := fun c hc hw => List.mem_map.2 ⟨c, hc, if_pos hw⟩
  have back : ∀ d ∈ dueC pg gr rg now C, ∃ c ∈ C, (whatC pg gr rg now c ≠ 2 ∧ d = c) ∨ (whatC pg gr rg now c = 2 ∧ d = ⟨c.id, c.at_, c.inn, true⟩) := fun d hd => by
    obtain ⟨c, hc, rfl⟩ := List.mem_map.1 hd
    refine ⟨c, hc, ?_⟩
    unfold askC
    split
    · rename_i e; exact .inr ⟨e, rfl⟩
    · rename_i e; exact .inl ⟨e, rfl⟩
  have one : ∀ c ∈ C, ∀ i, c.id = i → ((∀ q ∈ pre, now < q.2 + gr → i ≠ q.1) ↔ whatC pg gr rg now c ≠ 2) := fun c hc i hi => by
    constructor
    · intro hq hw
      obtain ⟨q, h1, h2, h3⟩ := (asked i).2 ⟨c, hc, hi, hw⟩
      exact hq q h1 h2 h3
    · intro hw q h1 h2 h3
      obtain ⟨d, h4, h5, h6⟩ := (asked i).1 ⟨q, h1, h2, h3⟩
      rw [id_injC h.ids h4 hc (by rw [h5, hi])] at h6
      exact hw h6
  refine ⟨by rw [dueC_ids]; exact h.ids, h.nl, nodup_takeQ _ _ _ _ h.nq, nodup_takeA _ _ _ _ h.na, fun i v => ?_, fun i v => ?_, fun i v => ?_⟩
  · rw [h.l]
    constructor
    · rintro ⟨c, h1, h2, h3, h4⟩
      exact ⟨c, stays c h1 (fun e => by rw [(what_two.1 e).1] at h3; cases h3), h2, h3, h4⟩
    · rintro ⟨d, h1, h2, h3, h4⟩
      obtain ⟨c, hc, (⟨_, rfl⟩ | ⟨hw, rfl⟩)⟩ := back d h1
      · exact ⟨d, hc, h2, h3, h4⟩
      · rw [(what_two.1 hw).1] at h3; cases h3
  · rw [mem_takeQ, h.q]
    constructor
    · rintro ⟨⟨c, h1, h2, h3, h4, h5⟩, h6⟩
      exact ⟨c, stays c h1 ((one c h1 i h2).1 h6), h2, h3, h4, h5⟩
    · rintro ⟨d, h1, h2, h3, h4, h5⟩
      obtain ⟨c, hc, (⟨hw, rfl⟩ | ⟨hw, rfl⟩)⟩ := back d h1
      · exact ⟨⟨d, hc, h2, h3, h4, h5⟩, (one d hc i h2).2 hw⟩
      · cases h4
  · rw [mem_takeA _ _ _ _ _ hn, h.a]
    constructor
    · rintro (⟨⟨c, h1, h2, h3, h4, h5⟩, h6⟩ | ⟨q, h1, h2, h3⟩)
      · exact ⟨c, stays c h1 ((one c h1 i h2).1 h6), h2, h3, h4, h5⟩
      · injection h3 with e1 e2
        obtain ⟨h4, h5⟩ := (hp q).1 h1
        obtain ⟨c, h6, h7, h8, h9, h10⟩ := (h.q q.1 q.2).1 h4
        exact ⟨_, turns c h6 (what_two.2 ⟨h8, h9, by omega, by omega⟩), by rw [e1]; exact h7, h8, rfl, by show v = c.at_ + pg + gr; omega⟩
    · rintro ⟨d, h1, h2, h3, h4, h5⟩
      obtain ⟨c, hc, (⟨hw, rfl⟩ | ⟨hw, rfl⟩)⟩ := back d h1
      · exact .inl ⟨⟨d, hc, h2, h3, h4, h5⟩, (one d hc i h2).2 hw⟩
      · obtain ⟨e1, e2, e3, e4⟩ := what_two.1 hw
        right
        refine ⟨(i, c.at_ + pg), (hp _).2 ⟨(h.q _ _).2 ⟨c, hc, h2, e1, e2, rfl⟩, by simp; omega⟩, by simp; omega, ?_⟩
        rw [Prod.mk.injEq]; exact ⟨rfl, h5⟩
/-- rows of what is due: the late ones, the dead ones, the others -/
def rowsP (gr now : Int) (l a q : Tab) : List (Int × Int) := l.map (fun p => (p.1, 1)) ++ a.map (fun p => (p.1, 3)) ++ q.map (rowQ gr now)
theorem RelP.rows_mem {pg gr rg : Int} {C : List Cn} {L Q A : Tab} (h : RelP pg gr rg C L Q A) (now : Int) (hg : 0 ≤ gr) {l a q : Tab} (hl : ∀ p, p ∈ l ↔ p ∈ L ∧ p.2 ≤ now) (ha : ∀ p, p ∈ a ↔ p ∈ A ∧ p.2 ≤ now) (hq : ∀ p, p ∈ q ↔ p ∈ Q ∧ p.2 ≤ now) (i k : Int) :
    (i, k) ∈ rowsP gr now l a q ↔ ∃ c ∈ C, c.id = i ∧ whatC pg gr rg now c = k ∧ k ≠ 0 := by
  unfold rowsP
  rw [List.mem_append, List.mem_append, List.mem_map, List.mem_map, List.mem_map]
  constructor
  · rintro ((⟨p, h1, h2⟩ | ⟨p, h1, h2⟩) | ⟨p, h1, h2⟩)
    · injection h2 with e1 e2
      subst e1; subst e2
      obtain ⟨h3, h4⟩ := (hl p).1 h1
      obtain ⟨c, h5, h6, h7, h8⟩ := (h.l p.1 p.2).1 h3
      exact ⟨c, h5, h6, what_one.2 ⟨h7, by omega⟩, by decide⟩
    · injection h2 with e1 e2
      subst e1; subst e2
      obtain ⟨h3, h4⟩ := (ha p).1 h1
      obtain ⟨c, h5, h6, h7, h8, h9⟩ := (h.a p.1 p.2).1 h3
      exact ⟨c, h5, h6, what_three.2 ⟨h7, by omega⟩, by decide⟩
    · unfold rowQ at h2
      injection h2 with e1 e2
      subst e1
      obtain ⟨h3, h4⟩ := (hq p).1 h1
      obtain ⟨c, h5, h6, h7, h8, h9⟩ := (h.q p.1 p.2).1 h3
      split at e2
      · subst e2; exact ⟨c, h5, h6, what_three.2 ⟨h7, by omega⟩, by decide⟩
      · subst e2; exact ⟨c, h5, h6, what_two.2 ⟨h7, h8, by omega, by omega⟩, by decide⟩
  · rintro ⟨c, h1, h2, h3, h4⟩
    subst h2
    rcases what_any pg gr rg now c with e | e | e | e
    · rw [e] at h3; exact absurd h3.symm h4
    · rw [e] at h3; subst h3
      obtain ⟨h5, h6⟩ := what_one.1 e
      exact .inl (.inl ⟨(c.id, c.at_ + rg), (hl _).2 ⟨(h.l _ _).2 ⟨c, h1, rfl, h5, rfl⟩, by simp; omega⟩, rfl⟩)
    · rw [e] at h3; subst h3
      obtain ⟨h5, h6, h7, h8⟩ := what_two.1 e
      refine .inr ⟨(c.id, c.at_ + pg), (hq _).2 ⟨(h.q _ _).2 ⟨c, h1, rfl, h5, h6, rfl⟩, by simp; omega⟩, ?_⟩
      unfold rowQ
      rw [if_neg (by simp; omega)]
    · rw [e] at h3; subst h3
      obtain ⟨h5, h6⟩ := what_three.1 e
      cases hk : c.ask with
      | true => exact .inl (.inr ⟨(c.id, c.at_ + pg + gr), (ha _).2 ⟨(h.a _ _).2 ⟨c, h1, rfl, h5, hk, rfl⟩, by simp; omega⟩, rfl⟩)
      | false =>
        refine .inr ⟨(c.id, c.at_ + pg), (hq _).2 ⟨(h.q _ _).2 ⟨c, h1, rfl, h5, hk, rfl⟩, by simp; omega⟩, ?_⟩
        unfold rowQ
        rw [if_pos (by simp; omega)]
theorem rowsP_fst (gr now : Int) (l a q : Tab) : (rowsP gr now l a q).map (·.1) = l.map (·.1) ++ a.map (·.1) ++ q.map (·.1) := by
  unfold rowsP
  simp [List.map_append, List.map_map, Function.comp_def, rowQ]
theorem RelP.disj {pg gr rg : Int} {C : List Cn} {L Q A : Tab} (h : RelP pg gr rg C L Q A) : (∀ i v u, (i, v) ∈ L → (i, u) ∉ A) ∧ (∀ i v u, (i, v) ∈ L → (i, u) ∉ Q) ∧ (∀ i v u, (i, v) ∈ A → (i, u) ∉ Q) := by
  refine ⟨fun i v u h1 h2 => ?_, fun i v u h1 h2 => ?_, fun i v u h1 h2 => ?_⟩
  · obtain ⟨c, a1, a2, a3, _⟩ := (h.l _ _).1 h1
    obtain ⟨d, b1, b2, b3, _⟩ := (h.a _ _).1 h2
    rw [id_injC h.ids a1 b1 (by rw [a2, b2]), b3] at a3; cases a3
  · obtain ⟨c, a1, a2, a3, _⟩ := (h.l _ _).1 h1
    obtain ⟨d, b1, b2, b3, _⟩ := (h.q _ _).1 h2
    rw [id_injC h.ids a1 b1 (by rw [a2, b2]), b3] at a3; cases a3
  · obtain ⟨c, a1, a2, _, a3, _⟩ := (h.a _ _).1 h1
    obtain ⟨d, b1, b2, _, b3, _⟩ := (h.q _ _).1 h2
    rw [id_injC h.ids a1 b1 (by rw [a2, b2]), b3] at a3; cases a3
/-- the numbers of what is due are apart -/
theorem rowsP_nodup {gr now : Int} {L Q A l a q : Tab} (hd : (∀ i v u, (i, v) ∈ L → (i, u) ∉ A) ∧ (∀ i v u, (i, v) ∈ L → (i, u) ∉ Q) ∧ (∀ i v u, (i, v) ∈ A → (i, u) ∉ Q)) (nl : (l.map (·.1)).Nodup) (na : (a.map (·.1)).Nodup) (nq : (q.map (·.1)).Nodup)
    (hl : ∀ p ∈ l, p ∈ L) (ha : ∀ p ∈ a, p ∈ A) (hq : ∀ p ∈ q, p ∈ Q) : ((rowsP gr now l a q).map (·.1)).Nodup := by
  rw [rowsP_fst, List.nodup_append, List.nodup_append]
  refine ⟨⟨nl, na, fun x hx y hy e => ?_⟩, nq, fun x hx y hy e => ?_⟩
  · obtain ⟨p, hp, rfl⟩ := List.mem_map.1 hx
    obtain ⟨r, hr, rfl⟩ := List.mem_map.1 hy
    exact hd.1 p.1 p.2 r.2 (hl _ hp) (by have := ha _ hr; rw [e]; exact this)
  · obtain ⟨r, hr, rfl⟩ := List.mem_map.1 hy
    rcases List.mem_append.1 hx with hx | hx
    · obtain ⟨p, hp, rfl⟩ := List.mem_map.1 hx
      exact hd.2.1 p.1 p.2 r.2 (hl _ hp) (by have := hq _ hr; rw [e]; exact this)
    · obtain ⟨p, hp, rfl⟩ := List.mem_map.1 hx
      exact hd.2.2 p.1 p.2 r.2 (ha _ hp) (by have := hq _ hr; rw [e]; exact this)
/-- rows that rise by their numbers, of the same things, are one -/
theorem rise_fst {l m : List (Int × Int)} (h : l.Pairwise fun x y => x.1 < y.1) (k : m.Pairwise fun x y => x.1 < y.1) (hm : ∀ p, p ∈ l ↔ p ∈ m) : l = m := by
  have nd : ∀ {r : List (Int × Int)}, (r.Pairwise fun x y => x.1 < y.1) → r.Nodup := fun hr => hr.imp fun {a b} hlt e => by rw [e] at hlt; omega
  have hp : l.Perm m := (List.perm_ext_iff_of_nodup (nd h) (nd k)).2 hm
  exact List.Perm.eq_of_pairwise (le := fun x y : Int × Int => x.1 < y.1) (fun a b _ _ h1 h2 => by omega) h k hp
end Go.Proofs.YtpbobonddocgkaaGreatDoor
end
section
/- Regions that draw their order, walked op by op in one way: what is held may grow on the way. -/
namespace Go.Proofs.YtpbobonddocgkaaGreatDoor
open Go Go.RowKit

section
variable {P : Program} {md : Region.Mode} {ops : Array Oper} {Q : Exit → Act → World → Prop} {S T : World → Prop}
/-- what is held may be more from here on -/
theorem wpAnyH_more (hST : ∀ w, T w → S w) : ∀ (fuel : Nat) (listed : Array Bool) (a : Act) (w : World), wpAnyH P md ops Q T fuel listed a w → wpAnyH P md ops Q S fuel listed a w
  | 0, _, _, _, h => h
  | fuel + 1, _, _, _, h => ⟨h.1, fun i hi => wpOp_mono (fun a' w' h' => ⟨hST w' h'.1, wpAnyH_more hST fuel _ a' w' h'.2⟩) (h.2 i hi)⟩
/-- one alone may come up: a call, a store -/
theorem wpAnyH_one {i : Nat} {o : Oper} {fuel : Nat} {listed : Array Bool} {a : Act} {w : World} (hr : Region.ready md ops listed = [i]) (ho : ops[i]? = some o) (hw : Region.wanted o (yielded ops a.tmps) = true)
    (h : ∀ K' : Act → World → Prop, Shut (∀ a w, S w → (S w → wpAnyH P md ops Q S fuel (listed.setIfInBounds i true) a w) → K' a w) → Oper.wp P o a w K' Q) : wpAnyH P md ops Q S (fuel + 1) listed a w :=
  wpAnyH_ready hr (by simp) (AllReadyH.cons ho (fun K hK => by rw [if_pos hw]; exact h K hK) AllReadyH.nil)
/-- what yields in every world that is held -/
theorem wpAnyH_read {i : Nat} {oi : Oper} (v : Value) {fuel : Nat} {listed : Array Bool} {a : Act} {w : World} (hi : ops[i]? = some oi)
    (hs : Region.noSelect ops = true) (hf : Region.free md ops listed i = true) (hr : (Region.ready md ops listed).contains i = true)
    (hQ : ∀ c a w, Q (.panic c) (a.put oi.dst v) w → Q (.panic c) a w) (hw : Region.wanted oi (yielded ops a.tmps) = true) (hS : S w)
    (hy : ∀ w, S w → (execOp a.eval oi).run P w = .ok (.value v) w)
    (h : wpAnyH P md ops Q S fuel (listed.setIfInBounds i true) (a.put oi.dst v) w) : wpAnyH P md ops Q S (fuel + 1) listed a w :=
  wpAnyH_take hi hs hf hr hQ (Or.inl ⟨hw, hy⟩) hS h
/-- what is guarded, and not wanted -/
theorem wpAnyH_pass {i : Nat} {oi : Oper} {fuel : Nat} {listed : Array Bool} {a : Act} {w : World} (hi : ops[i]? = some oi)
    (hs : Region.noSelect ops = true) (hf : Region.free md ops listed i = true) (hr : (Region.ready md ops listed).contains i = true)
    (hQ : ∀ c a w, Q (.panic c) (a.put oi.dst undef) w → Q (.panic c) a w) (hw : Region.wanted oi (yielded ops a.tmps) = false) (hS : S w)
    (h : wpAnyH P md ops Q S fuel (listed.setIfInBounds i true) (a.put oi.dst undef) w) : wpAnyH P md ops Q S (fuel + 1) listed a w :=
  wpAnyH_take hi hs hf hr hQ (Or.inr ⟨hw, rfl⟩) hS h
end
end Go.Proofs.YtpbobonddocgkaaGreatDoor
end
