/- Texts of this proof, one behind the other. -/
import Derived.Test.YtlkeomcillencaaGreatRoomsPlayG18
import Derived.Test.YtlkeomcillencaaGreatRoomsPlayG20
import Derived.Laws.StructEq
set_option linter.unusedVariables false
set_option linter.unusedSimpArgs false
section
/- Layer 20: the document's Join and Part, as lists; both sides keep to one another. -/
namespace Go.Proofs.YtlkeomcillencaaGreat
open Go Go.RowKit Go.Maps Go.Sort Go.Shelf Go.Lib

def onX (id : Int) (x : Rx) : Bool := decide (0 ≤ atM x.L id)
def getXs (X : List Rx) (k : List UInt8) : Option Rx := X.find? fun x => decide (foldL x.nm = k)
def ofXs (X : List Rx) (id : Int) : List Rx := X.filter (onX id)
def addXs (X : List Rx) (id : Int) (k : List UInt8) : List Rx := X.map fun x => if foldL x.nm = k then addX x id false else x
def partXr (id : Int) (k : List UInt8) (x : Rx) : Option Rx := if foldL x.nm = k ∧ onX id x = true then (if (dropX x id).L = [] then none else some (dropX x id)) else some x
def partXs (X : List Rx) (id : Int) (k : List UInt8) : List Rx := X.filterMap (partXr id k)
def joinXs (mr mj mb : Int) (X : List Rx) (id : Int) (nm : List UInt8) : List Rx × Option Rx :=
  match getXs X (foldL nm) with
  | some x => if onX id x then (X, some x) else if mj ≤ ((ofXs X id).length : Int) then (X, none) else (addXs X id (foldL nm), some (addX x id false))
  | none => if mj ≤ ((ofXs X id).length : Int) ∨ mr ≤ (X.length : Int) then (X, none) else (X ++ [addX (rx0 nm mb) id true], some (addX (rx0 nm mb) id true))
theorem getXs_map (E : List RdE) (k : List UInt8) : getXs (E.map (·.x)) k = (getD E k).map (·.x) := by unfold getXs getD; rw [List.find?_map]; rfl
theorem ofXs_map (E : List RdE) (id : Int) : ofXs (E.map (·.x)) id = (E.filter (onD id)).map (·.x) := by unfold ofXs; rw [List.filter_map]; rfl
theorem keysD_oth {E1 E2 : List RdE} {f : RdE} (hn : ((E1 ++ f :: E2).map keyD).Nodup) {e : RdE} (he : e ∈ E1 ∨ e ∈ E2) : keyD e ≠ keyD f := by
  rw [List.map_append, List.map_cons, List.nodup_append, List.nodup_cons] at hn
  rcases he with a | a
  · exact hn.2.2 _ (List.mem_map_of_mem a) _ (List.mem_cons_self ..)
  · exact fun e1 => hn.2.1.1 (e1 ▸ List.mem_map_of_mem a)
theorem getD_of {E : List RdE} (hn : (E.map keyD).Nodup) {e : RdE} (he : e ∈ E) : getD E (keyD e) = some e := by
  cases hg : getD E (keyD e) with
  | none => exact absurd (List.mem_map_of_mem he) (getD_none hg)
  | some f =>
    obtain ⟨h1, h2⟩ := getD_mem hg
    obtain ⟨A, B, rfl⟩ := List.append_of_mem he
    rcases List.mem_append.1 h1 with a | a
    · exact absurd h2 (keysD_oth hn (.inl a))
    · rcases List.mem_cons.1 a with rfl | a
      · rfl
      · exact absurd h2 (keysD_oth hn (.inr a))
theorem addXs_mid {E1 E2 : List RdE} {f : RdE} {id : Int} (hk : ((E1 ++ f :: E2).map keyD).Nodup) : addXs ((E1 ++ f :: E2).map (·.x)) id (keyD f) = E1.map (·.x) ++ addX f.x id false :: E2.map (·.x) := by
  have same : ∀ (P : List RdE), (∀ e ∈ P, keyD e ≠ keyD f) → addXs (P.map (·.x)) id (keyD f) = P.map (·.x) := fun P hP => by
    unfold addXs
    rw [List.map_map]
    refine List.map_congr_left fun e he => ?_
    exact if_neg (hP e he)
  have h1 := same E1 fun e he => keysD_oth hk (.inl he)
  have h2 := same E2 fun e he => keysD_oth hk (.inr he)
  unfold addXs at h1 h2 ⊢
  rw [List.map_append, List.map_append, h1, List.map_cons, List.map_cons, h2, if_pos (show foldL f.x.nm = keyD f from rfl)]
theorem partXs_mid {E1 E2 : List RdE} {f : RdE} {id : Int} (hk : ((E1 ++ f :: E2).map keyD).Nodup) : partXs ((E1 ++ f :: E2).map (·.x)) id (keyD f) = E1.map (·.x) ++ ((partXr id (keyD f) f.x).toList ++ E2.map (·.x)) := by
  have same : ∀ (P : List RdE), (∀ e ∈ P, keyD e ≠ keyD f) → (P.map (·.x)).filterMap (partXr id (keyD f)) = P.map (·.x) := fun P hP => filterMap_same fun a ha => by
    obtain ⟨e, he, rfl⟩ := List.mem_map.1 ha
    exact if_neg fun e9 => hP e he e9.1
  have h1 := same E1 fun e he => keysD_oth hk (.inl he)
  have h2 := same E2 fun e he => keysD_oth hk (.inr he)
  unfold partXs
  rw [List.map_append, List.filterMap_append, h1, List.map_cons]
  congr 1
  cases hp : partXr id (keyD f) f.x with
  | none => rw [List.filterMap_cons_none hp, h2]; rfl
  | some r => rw [List.filterMap_cons_some hp, h2]; rfl
theorem partXs_not {E : List RdE} {id : Int} {k : List UInt8} (hn : (E.map keyD).Nodup) (h : ∀ f, getD E k = some f → onD id f = false) : partXs (E.map (·.x)) id k = E.map (·.x) := filterMap_same fun a ha => by
  obtain ⟨e, he, rfl⟩ := List.mem_map.1 ha
  refine if_neg fun e2 => ?_
  have h1 := getD_of hn he
  rw [show keyD e = k from e2.1] at h1
  have h2 := h e h1
  rw [show onD id e = true from e2.2] at h2
  cases h2
theorem dropX_len (x : Rx) (id : Int) : (dropX x id).L.length ≤ x.L.length := by
  unfold dropX
  split
  · simp only [List.length_append, List.length_take, List.length_drop]; omega
  · exact Nat.le_refl _
theorem dropX_gs (x : Rx) (id : Int) : (dropX x id).gs = x.gs := by unfold dropX; split <;> rfl
theorem addX_len (x : Rx) (id : Int) (op : Bool) : (addX x id op).L.length ≤ x.L.length + 1 := by
  unfold addX
  split
  · omega
  · simp
theorem addX_gs {x : Rx} (id : Int) (op : Bool) (h : x.gs = []) : (addX x id op).gs = [] := by
  unfold addX
  split
  · exact h
  · rw [h]; rfl
theorem memD_mid {E1 E2 : List RdE} {f e : RdE} : e ∈ E1 ++ f :: E2 ↔ e ∈ E1 ∨ e = f ∨ e ∈ E2 := by simp
/-- Part in one word -/
def PartDW (base R n : Nat) (C : Nat → Tag) (mr mj mb : Int) (X : List Rx) (id : Int) (k : List UInt8) (w : World) (e : Ending) (w' : World) : Prop :=
  ∃ E', (∃ bo, e = .returned (.bool bo)) ∧ RdTo base R C mr mj mb E' w w' ∧ RdLg n E' ∧ E'.map (·.x) = partXs X id k
theorem lgD_of {n : Nat} {E E' : List RdE} (h : RdLg n E) (he : E'.map (·.x) = E.map (·.x)) : RdLg n E' := by
  have hl : E'.length = E.length := by have := congrArg List.length he; simpa using this
  have hm : ∀ e ∈ E', ∃ f ∈ E, f.x = e.x := fun e hm => by
    have : e.x ∈ E.map (·.x) := by rw [← he]; exact List.mem_map_of_mem hm
    obtain ⟨f, hf, e2⟩ := List.mem_map.1 this
    exact ⟨f, hf, e2⟩
  exact ⟨by rw [hl]; exact h.elen, fun e he => by obtain ⟨f, hf, e2⟩ := hm e he; rw [← e2]; exact h.llen f hf, fun e he => by obtain ⟨f, hf, e2⟩ := hm e he; rw [← e2]; exact h.gs f hf, fun e he => by obtain ⟨f, hf, e2⟩ := hm e he; rw [← e2]; exact h.nms f hf⟩
theorem PartD.to {base : Nat} {w w' : World} {e : Ending} {R n : Nat} {v : Value} {C : Nat → Tag} {mr mj mb : Int} {E : List RdE} (h : RdPh base w R v C mr mj mb E) (hl : RdLg n E) {id : Int} {k : List UInt8} (hp : PartD base R C mr mj mb E id k w e w') : PartDW base R n C mr mj mb (E.map (·.x)) id k w e w' := by
  rcases hp with ⟨h1, rfl, E', h2, h3⟩ | ⟨E1, f, E2, rfl, rfl, hm, rfl, hc⟩
  · exact ⟨E', ⟨_, rfl⟩, h2, lgD_of hl h3, by rw [h3, partXs_not h.keys h1]⟩
  · have hkk := h.keys
    rcases hc with ⟨hd, hto⟩ | ⟨hd, q', hto⟩
    · refine ⟨_, ⟨_, rfl⟩, hto, ⟨?_, fun e he => ?_, fun e he => ?_, fun e he => ?_⟩, ?_⟩
      · have := hl.elen; simp at this ⊢; omega
      all_goals try
        have he2 : e ∈ E1 ++ f :: E2 := by
          rcases List.mem_append.1 he with a | a
          · exact memD_mid.2 (.inl a)
          · exact memD_mid.2 (.inr (.inr a))
      · exact hl.llen e he2
      · exact hl.gs e he2
      · exact hl.nms e he2
      · have : partXr id (keyD f) f.x = none := by unfold partXr; rw [if_pos ⟨rfl, hm⟩, if_pos hd]
        rw [partXs_mid hkk, this, List.map_append]; rfl
    · refine ⟨_, ⟨_, rfl⟩, hto, ⟨?_, fun e he => ?_, fun e he => ?_, fun e he => ?_⟩, ?_⟩
      · have := hl.elen; simp at this ⊢; omega
      · rcases memD_mid.1 he with a | rfl | a
        · exact hl.llen e (memD_mid.2 (.inl a))
        · exact Nat.le_trans (dropX_len _ _) (hl.llen f (by simp))
        · exact hl.llen e (memD_mid.2 (.inr (.inr a)))
      · rcases memD_mid.1 he with a | rfl | a
        · exact hl.gs e (memD_mid.2 (.inl a))
        · exact (dropX_gs _ _).trans (hl.gs f (by simp))
        · exact hl.gs e (memD_mid.2 (.inr (.inr a)))
      · rcases memD_mid.1 he with a | rfl | a
        · exact hl.nms e (memD_mid.2 (.inl a))
        · show (dropX f.x id).nm.length ≤ 1000; rw [dropX_nm]; exact hl.nms f (by simp)
        · exact hl.nms e (memD_mid.2 (.inr (.inr a)))
      · have : partXr id (keyD f) f.x = some (dropX f.x id) := by unfold partXr; rw [if_pos ⟨rfl, hm⟩, if_neg hd]
        rw [partXs_mid hkk, this, List.map_append]; rfl
/-- Join in one word -/
def JoinDW (base R n : Nat) (C : Nat → Tag) (mr mj mb : Int) (X : List Rx) (id : Int) (nm : List UInt8) (w : World) (e : Ending) (w' : World) : Prop :=
  ∃ E', RdTo base R C mr mj mb E' w w' ∧ RdLg (n + 1) E' ∧ E'.map (·.x) = (joinXs mr mj mb X id nm).1 ∧
    ((joinXs mr mj mb X id nm).2 = none ∧ e = .returned (.tuple #[.pointer none, .int .i64 405]) ∨ ∃ f ∈ E', (joinXs mr mj mb X id nm).2 = some f.x ∧ e = .returned (.tuple #[.pointer (some ⟨f.B, 0, none⟩), .int .i64 0]))
theorem RdLg.more {n m : Nat} {E : List RdE} (h : RdLg n E) (hm : n ≤ m) : RdLg m E := ⟨Nat.le_trans h.elen hm, fun e he => Nat.le_trans (h.llen e he) hm, h.gs, h.nms⟩
theorem JoinD.to {base : Nat} {w w' : World} {e : Ending} {R n : Nat} {v : Value} {C : Nat → Tag} {mr mj mb : Int} {E : List RdE} (h : RdPh base w R v C mr mj mb E) (hl : RdLg n E) {id : Int} {nm : List UInt8} (hnm : nm.length ≤ 1000) (hp : JoinD base R C mr mj mb E id nm w e w') : JoinDW base R n C mr mj mb (E.map (·.x)) id nm w e w' := by
  have hof : (ofXs (E.map (·.x)) id).length = (E.filter (onD id)).length := by rw [ofXs_map, List.length_map]
  rcases hp with ⟨f, hg, hm, rfl, hto⟩ | ⟨hm, hfull, rfl, hto⟩ | ⟨E1, f, E2, q', rfl, hk, hm, hlt, rfl, hto⟩ | ⟨hg, hlt, hq, B, q, rfl, hto⟩
  · have hj : joinXs mr mj mb (E.map (·.x)) id nm = (E.map (·.x), some f.x) := by unfold joinXs; rw [getXs_map, hg]; simp only [Option.map_some]; exact if_pos hm
    exact ⟨E, hto, hl.more (Nat.le_succ n), by rw [hj], .inr ⟨f, (getD_mem hg).1, by rw [hj], rfl⟩⟩
  · have hj : joinXs mr mj mb (E.map (·.x)) id nm = (E.map (·.x), none) := by
      unfold joinXs
      rw [getXs_map]
      cases hg : getD E (foldL nm) with
      | some f =>
        simp only [Option.map_some]
        rw [show onX id f.x = false from hm f hg, hof]
        rcases hfull with a | ⟨a, _⟩
        · rw [if_neg (by simp), if_pos a]
        · rw [hg] at a; cases a
      | none =>
        simp only [Option.map_none]
        rw [hof, List.length_map]
        refine if_pos ?_
        rcases hfull with a | ⟨_, a⟩
        · exact .inl a
        · exact .inr a
    exact ⟨E, hto, hl.more (Nat.le_succ n), by rw [hj], .inl ⟨by rw [hj], rfl⟩⟩
  · have hkk := h.keys
    have hg := getD_of hkk (e := f) (by simp)
    rw [hk] at hg
    have hj : joinXs mr mj mb ((E1 ++ f :: E2).map (·.x)) id nm = (addXs ((E1 ++ f :: E2).map (·.x)) id (foldL nm), some (addX f.x id false)) := by
      unfold joinXs; rw [getXs_map, hg]; simp only [Option.map_some]
      rw [show onX id f.x = false from hm, hof, if_neg (by simp), if_neg (by omega)]
    refine ⟨_, hto, ⟨?_, fun e he => ?_, fun e he => ?_, fun e he => ?_⟩, ?_, .inr ⟨⟨f.B, q', addX f.x id false⟩, by simp, by rw [hj], rfl⟩⟩
    · have := hl.elen; simp at this ⊢; omega
    · rcases memD_mid.1 he with a | rfl | a
      · exact Nat.le_succ_of_le (hl.llen e (memD_mid.2 (.inl a)))
      · exact Nat.le_trans (addX_len _ _ _) (Nat.succ_le_succ (hl.llen f (by simp)))
      · exact Nat.le_succ_of_le (hl.llen e (memD_mid.2 (.inr (.inr a))))
    · rcases memD_mid.1 he with a | rfl | a
      · exact hl.gs e (memD_mid.2 (.inl a))
      · exact addX_gs _ _ (hl.gs f (by simp))
      · exact hl.gs e (memD_mid.2 (.inr (.inr a)))
    · rcases memD_mid.1 he with a | rfl | a
      · exact hl.nms e (memD_mid.2 (.inl a))
      · show (addX f.x id false).nm.length ≤ 1000; rw [addX_nm]; exact hl.nms f (by simp)
      · exact hl.nms e (memD_mid.2 (.inr (.inr a)))
    · rw [hj, ← hk, addXs_mid hkk, List.map_append, List.map_cons]
  · have hj : joinXs mr mj mb (E.map (·.x)) id nm = (E.map (·.x) ++ [addX (rx0 nm mb) id true], some (addX (rx0 nm mb) id true)) := by
      unfold joinXs; rw [getXs_map, hg]; simp only [Option.map_none]
      rw [hof, List.length_map, if_neg (by omega)]
    refine ⟨_, hto, ⟨?_, fun e he => ?_, fun e he => ?_, fun e he => ?_⟩, by rw [hj, List.map_append]; rfl, .inr ⟨⟨B, q, addX (rx0 nm mb) id true⟩, by simp, by rw [hj], rfl⟩⟩
    · have := hl.elen; simp; omega
    · rcases List.mem_append.1 he with a | a
      · exact Nat.le_succ_of_le (hl.llen e a)
      · obtain rfl := List.mem_singleton.1 a
        exact Nat.le_trans (addX_len _ _ _) (by show 0 + 1 ≤ n + 1; omega)
    · rcases List.mem_append.1 he with a | a
      · exact hl.gs e a
      · obtain rfl := List.mem_singleton.1 a
        exact addX_gs _ _ rfl
    · rcases List.mem_append.1 he with a | a
      · exact hl.nms e a
      · obtain rfl := List.mem_singleton.1 a
        show (addX (rx0 nm mb) id true).nm.length ≤ 1000
        rw [addX_nm]; exact hnm
/-- both say the same of a room -/
def R1 (r : Rm) (x : Rx) : Prop := r.nm = x.nm ∧ r.mem.Perm x.L ∧ UpM r.mem
def RelL : List Rm → List Rx → Prop
  | [], [] => True
  | r :: A, x :: X => R1 r x ∧ RelL A X
  | _, _ => False
theorem R1.has {r : Rm} {x : Rx} (h : R1 r x) (id : Int) : hasM r.mem id = onX id x := by
  rw [hasM_perm h.2.1 id]
  unfold onX
  cases hb : hasM x.L id with
  | false => have := atM_no.2 hb; rw [decide_eq_false (by omega)]
  | true =>
    have : ¬ atM x.L id < 0 := fun e => by rw [atM_no.1 e] at hb; cases hb
    rw [decide_eq_true (by omega)]
theorem R1.add {r : Rm} {x : Rx} (h : R1 r x) (id : Int) (op : Bool) : R1 (addR r id op) (addX x id op) := by
  have hh := h.has id
  refine ⟨by rw [addR_nm, addX_nm]; exact h.1, ?_, ?_⟩
  · unfold addR addX
    cases hb : hasM r.mem id with
    | true =>
      rw [hb] at hh
      rw [if_pos rfl, if_pos (of_decide_eq_true hh.symm)]; exact h.2.1
    | false =>
      rw [hb] at hh
      rw [if_neg (by simp), if_neg (of_decide_eq_false hh.symm)]
      exact ins_rel h.2.1 _
  · unfold addR
    cases hb : hasM r.mem id with
    | true => rw [if_pos rfl]; exact h.2.2
    | false => rw [if_neg (by simp)]; exact insM_up h.2.2 hb
theorem R1.drop {r : Rm} {x : Rx} (h : R1 r x) {id : Int} (hm : hasM r.mem id = true) : R1 (dropR r id) (dropX x id) := by
  have hh := h.has id
  rw [hm] at hh
  have h0 : (0 : Int) ≤ atM x.L id := of_decide_eq_true hh.symm
  refine ⟨by rw [dropX_nm]; exact h.1, ?_, delM_up h.2.2 _⟩
  unfold dropX
  rw [if_pos h0]
  exact del_rel h.2.2 h.2.1 (by omega)
theorem RelL.len : ∀ {A : List Rm} {X : List Rx}, RelL A X → A.length = X.length
  | [], [], _ => rfl
  | _ :: _, _ :: _, h => by rw [List.length_cons, List.length_cons, h.2.len]
theorem RelL.ofLen : ∀ {A : List Rm} {X : List Rx}, RelL A X → ∀ id, (ofA A id).length = (ofXs X id).length
  | [], [], _, _ => rfl
  | r :: A, x :: X, h, id => by
    have h1 := h.1.has id
    have h2 := h.2.ofLen id
    unfold ofA ofXs at h2 ⊢
    rw [List.filter_cons, List.filter_cons, h1]
    split <;> simp [h2]
theorem RelL.get : ∀ {A : List Rm} {X : List Rx}, RelL A X → ∀ k, (getA A k = none ∧ getXs X k = none) ∨ ∃ r x, getA A k = some r ∧ getXs X k = some x ∧ R1 r x
  | [], [], _, _ => .inl ⟨rfl, rfl⟩
  | r :: A, x :: X, h, k => by
    have h2 := h.2.get k
    unfold getA getXs at h2 ⊢
    by_cases e : foldL r.nm = k
    · rw [List.find?_cons_of_pos (by simpa using e), List.find?_cons_of_pos (by rw [← h.1.1]; simpa using e)]
      exact .inr ⟨r, x, rfl, rfl, h.1⟩
    · rw [List.find?_cons_of_neg (by simpa using e), List.find?_cons_of_neg (by rw [← h.1.1]; simpa using e)]
      exact h2
theorem RelL.addS : ∀ {A : List Rm} {X : List Rx}, RelL A X → ∀ id k, RelL (addA A id k) (addXs X id k)
  | [], [], _, _, _ => trivial
  | r :: A, x :: X, h, id, k => by
    refine ⟨?_, h.2.addS id k⟩
    show R1 (if foldL r.nm = k then addR r id false else r) (if foldL x.nm = k then addX x id false else x)
    rw [h.1.1]
    split
    · exact h.1.add id false
    · exact h.1
theorem RelL.snoc : ∀ {A : List Rm} {X : List Rx}, RelL A X → ∀ {r x}, R1 r x → RelL (A ++ [r]) (X ++ [x])
  | [], [], _, _, _, h1 => ⟨h1, trivial⟩
  | _ :: _, _ :: _, h, _, _, h1 => ⟨h.1, h.2.snoc h1⟩
theorem RelL.part : ∀ {A : List Rm} {X : List Rx}, RelL A X → ∀ id k, RelL (partA A id k) (partXs X id k)
  | [], [], _, _, _ => trivial
  | r :: A, x :: X, h, id, k => by
    have ih := h.2.part id k
    have h1 := h.1.has id
    unfold partA partXs at ih ⊢
    by_cases c : foldL r.nm = k ∧ hasM r.mem id = true
    · have c2 : foldL x.nm = k ∧ onX id x = true := ⟨by rw [← h.1.1]; exact c.1, by rw [← h1]; exact c.2⟩
      have hd := h.1.drop c.2
      have hiff : delMb r.mem id = [] ↔ (dropX x id).L = [] := by
        constructor
        · intro e; have := hd.2.1; rw [show (dropR r id).mem = [] from e] at this; exact this.symm.eq_nil
        · intro e; have := hd.2.1; rw [e] at this; exact this.eq_nil
      by_cases e : delMb r.mem id = []
      · rw [List.filterMap_cons_none (by unfold partR; rw [if_pos c, if_pos e]), List.filterMap_cons_none (by unfold partXr; rw [if_pos c2, if_pos (hiff.1 e)])]
        exact ih
      · rw [List.filterMap_cons_some (by unfold partR; rw [if_pos c, if_neg e]), List.filterMap_cons_some (by unfold partXr; rw [if_pos c2, if_neg fun e2 => e (hiff.2 e2)])]
        exact ⟨hd, ih⟩
    · have c2 : ¬ (foldL x.nm = k ∧ onX id x = true) := fun c2 => c ⟨by rw [h.1.1]; exact c2.1, by rw [h1]; exact c2.2⟩
      rw [List.filterMap_cons_some (by unfold partR; rw [if_neg c]), List.filterMap_cons_some (by unfold partXr; rw [if_neg c2])]
      exact ⟨h.1, ih⟩
theorem R1.new (nm : List UInt8) (mb : Int) : R1 (rm0 nm mb) (rx0 nm mb) := ⟨rfl, List.Perm.refl _, List.Pairwise.nil⟩
theorem RelL.join {A : List Rm} {X : List Rx} (h : RelL A X) (mr mj mb : Int) (id : Int) (nm : List UInt8) : RelL (joinA mr mj mb A id nm).1 (joinXs mr mj mb X id nm).1 ∧ ((joinA mr mj mb A id nm).2 = none ∧ (joinXs mr mj mb X id nm).2 = none ∨ ∃ r x, (joinA mr mj mb A id nm).2 = some r ∧ (joinXs mr mj mb X id nm).2 = some x ∧ R1 r x) := by
  unfold joinA joinXs
  rw [← h.ofLen id, ← h.len]
  rcases h.get (foldL nm) with ⟨h1, h2⟩ | ⟨r, x, h1, h2, h3⟩
  · rw [h1, h2]
    simp only
    split
    · exact ⟨h, .inl ⟨rfl, rfl⟩⟩
    · exact ⟨h.snoc ((R1.new nm mb).add id true), .inr ⟨_, _, rfl, rfl, (R1.new nm mb).add id true⟩⟩
  · rw [h1, h2]
    simp only
    rw [h3.has id]
    split
    · exact ⟨h, .inr ⟨r, x, rfl, rfl, h3⟩⟩
    · split
      · exact ⟨h, .inl ⟨rfl, rfl⟩⟩
      · exact ⟨h.addS id _, .inr ⟨_, _, rfl, rfl, h3.add id false⟩⟩
end Go.Proofs.YtlkeomcillencaaGreat
end
section
/- Layer 20: both tables in one world, their steps. -/
namespace Go.Proofs.YtlkeomcillencaaGreat
open Go Go.RowKit Go.Maps Go.Sort Go.Shelf Go.Lib

/-- the program's rooms and the document's, apart -/
structure Two20 (n m base : Nat) (mr mj mb : Int) (R P : Nat) (A : List Rm) (Xs : List Rx) (w0 w : World) : Prop where
  st : ∃ t b tr X C Q L v D E, RsPh base w R t b tr X C mr mj mb Q L ∧ RsLg n Q L ∧ Q.map (·.r) = A ∧ RdPh base w P v D mr mj mb E ∧ RdLg m E ∧ E.map (·.x) = Xs ∧ ∀ k, C k = tag0 ∨ D k = tag0
  up : RowKit.Below base w0 w
section
variable {n m base : Nat} {mr mj mb : Int} {R P : Nat} {A : List Rm} {Xs : List Rx} {w0 w w' : World}
theorem Two20.below (h : Two20 n m base mr mj mb R P A Xs w0 w) (hb : RowKit.Below w.heap.size w w') : Two20 n m base mr mj mb R P A Xs w0 w' := by
  obtain ⟨⟨t, b, tr, X, C, Q, L, v, D, E, h1, h2, h3, h4, h5, h6, h7⟩, h8⟩ := h
  exact ⟨⟨t, b, tr, X, C, Q, L, v, D, E, h1.below hb, h2, h3, h4.below hb, h5, h6, h7⟩, h8.trans (hb.mono (by have := h1.base_le; omega))⟩
theorem Two20.more (h : Two20 n m base mr mj mb R P A Xs w0 w) : Two20 (n + 1) (m + 1) base mr mj mb R P A Xs w0 w := by
  obtain ⟨⟨t, b, tr, X, C, Q, L, v, D, E, h1, h2, h3, h4, h5, h6, h7⟩, h8⟩ := h
  exact ⟨⟨t, b, tr, X, C, Q, L, v, D, E, h1, h2.more (Nat.le_succ n), h3, h4, h5.more (Nat.le_succ m), h6, h7⟩, h8⟩
theorem RdPh.up {v : Value} {D : Nat → Tag} {E : List RdE} {w1 : World} (h : RdPh base w P v D mr mj mb E) (hf : Fr (fun k => D k ≠ tag0) w w1) {q : Nat} (hq : q ≤ base) (hb : RowKit.Below q w0 w) (h0 : q ≤ w0.heap.size) : RowKit.Below q w0 w1 :=
  hb.trans (hf.below (Nat.le_trans h0 hb.size) fun k _ e => Nat.le_trans hq (h.lt e).1)
/-- the program does a step -/
theorem two_left {t b tr : Nat} {X : Nat → Prop} {C D : Nat → Tag} {Q Q' : List RmE} {L L' : List (Int × List UInt8)} {v : Value} {E : List RdE} {n2 : Nat} (hup : RowKit.Below base w0 w) (h0 : base ≤ w0.heap.size)
    (h1 : RsPh base w R t b tr X C mr mj mb Q L) (h4 : RdPh base w P v D mr mj mb E) (h5 : RdLg m E) (h7 : ∀ k, C k = tag0 ∨ D k = tag0) (hs : RsTo base R C mr mj mb Q' L' w w') (hl : RsLg n2 Q' L') :
    Two20 n2 m base mr mj mb R P (Q'.map (·.r)) (E.map (·.x)) w0 w' := by
  obtain ⟨t2, b2, tr2, X2, C2, k1, k2, k3⟩ := hs
  refine ⟨⟨t2, b2, tr2, X2, C2, Q', L', v, D, E, k1, hl, rfl, h4.fr k3 fun k hk e => ?_, h5, rfl, fun k => ?_⟩, h1.up k3 (Nat.le_refl _) hup h0⟩
  · rcases h7 k with a | a
    · exact e a
    · exact hk a
  · by_cases hk : k < w.heap.size
    · rw [k2 k hk]; exact h7 k
    · exact .inr (h4.cN k (by omega))
/-- the document does a step -/
theorem two_right {t b tr : Nat} {X : Nat → Prop} {C D : Nat → Tag} {Q : List RmE} {L : List (Int × List UInt8)} {v : Value} {E E' : List RdE} {m2 : Nat} (hup : RowKit.Below base w0 w) (h0 : base ≤ w0.heap.size)
    (h1 : RsPh base w R t b tr X C mr mj mb Q L) (h2 : RsLg n Q L) (h4 : RdPh base w P v D mr mj mb E) (h7 : ∀ k, C k = tag0 ∨ D k = tag0) (hs : RdTo base P D mr mj mb E' w w') (hl : RdLg m2 E') :
    Two20 n m2 base mr mj mb R P (Q.map (·.r)) (E'.map (·.x)) w0 w' := by
  obtain ⟨v2, D2, k1, k2, k3⟩ := hs
  refine ⟨⟨t, b, tr, X, C, Q, L, v2, D2, E', h1.fr k3 fun k hk e => ?_, h2, rfl, k1, hl, rfl, fun k => ?_⟩, h4.up k3 (Nat.le_refl _) hup h0⟩
  · rcases h7 k with a | a
    · exact hk a
    · exact e a
  · by_cases hk : k < w.heap.size
    · rw [k2 k hk]; exact h7 k
    · exact .inl (h1.cN k (by omega))
theorem two_part_p (h : Two20 n m base mr mj mb R P A Xs w0 w) (h0 : base ≤ w0.heap.size) (hn : n ≤ 80000) {id : Int} (hid : OkKIS id) {nm : List UInt8} (hnm : nm.length ≤ 1000) :
    Calls Tryz.prog 10 #[.pointer (some ⟨R, 0, none⟩), .int .i64 id, .string (bs nm)] w fun e w' => (∃ bo, e = .returned (.bool bo)) ∧ Two20 n m base mr mj mb R P (partA A id (foldL nm)) Xs w0 w' := by
  obtain ⟨⟨t, b, tr, X, C, Q, L, v, D, E, h1, h2, rfl, h4, h5, rfl, h7⟩, h8⟩ := h
  refine (part_w h1 h2 hn hid hnm).mono fun e w' ⟨he, Q', k1, k2, k3⟩ => ⟨⟨_, he⟩, ?_⟩
  rw [← k3]; exact two_left h8 h0 h1 h4 h5 h7 k1 k2
theorem two_join_p (h : Two20 n m base mr mj mb R P A Xs w0 w) (h0 : base ≤ w0.heap.size) (hn : n ≤ 80000) {id : Int} (hid : OkKIS id) {nm : List UInt8} (hnm : nm.length ≤ 1000) :
    Calls Tryz.prog 14 #[.pointer (some ⟨R, 0, none⟩), .int .i64 id, .string (bs nm)] w fun e w' => (∃ p m, e = .returned (.tuple #[p, m])) ∧ Two20 (n + 1) m base mr mj mb R P (joinA mr mj mb A id nm).1 Xs w0 w' := by
  obtain ⟨⟨t, b, tr, X, C, Q, L, v, D, E, h1, h2, rfl, h4, h5, rfl, h7⟩, h8⟩ := h
  refine (join_w h1 h2 hn hid hnm).mono fun e w' ⟨Q', L', k1, k2, k3, k4⟩ => ⟨?_, ?_⟩
  · rcases k4 with ⟨_, he⟩ | ⟨f, _, _, he⟩
    · exact ⟨_, _, he⟩
    · exact ⟨_, _, he⟩
  · rw [← k3]; exact two_left h8 h0 h1 h4 h5 h7 k1 k2
theorem two_part_d (h : Two20 n m base mr mj mb R P A Xs w0 w) (h0 : base ≤ w0.heap.size) (hm : m ≤ 1000) (id : Int) {nm : List UInt8} (hnm : nm.length ≤ 1000) :
    Calls Tryz.prog 11 #[.pointer (some ⟨P, 0, none⟩), .int .i64 id, .string (bs nm)] w fun e w' => (∃ bo, e = .returned (.bool bo)) ∧ Two20 n m base mr mj mb R P A (partXs Xs id (foldL nm)) w0 w' := by
  obtain ⟨⟨t, b, tr, X, C, Q, L, v, D, E, h1, h2, rfl, h4, h5, rfl, h7⟩, h8⟩ := h
  refine (refPart_any h4 h5 hm id nm hnm).mono fun e w' hp => ?_
  obtain ⟨E', he, k1, k2, k3⟩ := hp.to h4 h5
  exact ⟨he, by rw [← k3]; exact two_right h8 h0 h1 h2 h4 h7 k1 k2⟩
theorem two_join_d (h : Two20 n m base mr mj mb R P A Xs w0 w) (h0 : base ≤ w0.heap.size) (hm : m ≤ 1000) (id : Int) {nm : List UInt8} (hnm : nm.length ≤ 1000) :
    Calls Tryz.prog 15 #[.pointer (some ⟨P, 0, none⟩), .int .i64 id, .string (bs nm)] w fun e w' => (∃ p m, e = .returned (.tuple #[p, m])) ∧ Two20 n (m + 1) base mr mj mb R P A (joinXs mr mj mb Xs id nm).1 w0 w' := by
  obtain ⟨⟨t, b, tr, X, C, Q, L, v, D, E, h1, h2, rfl, h4, h5, rfl, h7⟩, h8⟩ := h
  refine (refJoin_any h4 h5 hm id nm hnm).mono fun e w' hp => ?_
  obtain ⟨E', k1, k2, k3, k4⟩ := hp.to h4 h5 hnm
  refine ⟨?_, by rw [← k3]; exact two_right h8 h0 h1 h2 h4 h7 k1 k2⟩
  rcases k4 with ⟨_, he⟩ | ⟨f, _, _, he⟩
  · exact ⟨_, _, he⟩
  · exact ⟨_, _, he⟩
/-- both new -/
theorem two_new (h : RsOn 0 base mr mj mb R A w0 w) (hA : A = []) (h0 : base ≤ w.heap.size) : Two20 0 0 base mr mj mb R w.heap.size [] [] w0 (w.alloc (rdO mr mj mb (.slice none 0 0))) := by
  obtain ⟨⟨t, b, tr, X, C, Q, L, h1, h2, h3⟩, h4⟩ := h
  subst hA
  obtain rfl : Q = [] := List.map_eq_nil_iff.1 h3
  have hb : RowKit.Below w.heap.size w (w.alloc (rdO mr mj mb (.slice none 0 0))) := (Below.refl _ w).alloc (Nat.le_refl _) _
  refine ⟨⟨t, b, tr, X, C, [], L, .slice none 0 0, fun k => if k = w.heap.size then (1, []) else tag0, [], h1.below hb, h2, rfl, ⟨heap_alloc_new w _, ownPd_nil _ _, (fun e he => by cases he), List.nodup_nil, if_pos rfl, (fun k hk => by cases hk), (fun e he => by cases he), fun k hk => if_neg (by simp at hk; omega), fun k hk => if_neg (by omega)⟩, ⟨Nat.le_refl _, (fun e he => by cases he), (fun e he => by cases he), fun e he => by cases he⟩, rfl, fun k => ?_⟩, h4.trans (hb.mono h0)⟩
  by_cases e : k = w.heap.size
  · exact .inl (h1.cN k (by omega))
  · exact .inr (if_neg e)
end
end Go.Proofs.YtlkeomcillencaaGreat
end
section
/- Layer 20: the law's same, where both sides say the same. -/
namespace Go.Proofs.YtlkeomcillencaaGreat
open Go Go.RowKit Go.Maps Go.Sort Go.Shelf Go.Lib
attribute [local go_sem] Oper.semAt_some

theorem eqlM (a b : Mem) (W : World) : (binOp .eql 71 (.agg #[.int .i64 a.1, .bool a.2.1, .bool a.2.2]) (.agg #[.int .i64 b.1, .bool b.2.1, .bool b.2.2])).run Tryz.prog W = .ok (.bool (decide (a = b))) W := by
  have u1 := Tryz.underlying3
  have u2 := Tryz.underlying4
  have a1 := Tryz.isAgg3
  have a2 := Tryz.isAgg4
  have z1 := Tryz.sizeOf3
  have z2 := Tryz.sizeOf4
  have hS : Tryz.prog.underlying 71 = some (.struct (Tryz.prog.fieldsOf 71)) := by kernel_rfl
  have hp : Tryz.prog.stoodInHeld 71 = false := by kernel_rfl
  rw [run_eql_struct, show (10000 : Nat) = 9999 + 1 from rfl, run_equalIn_agg W 9999 71 _ _ hS hp]
  simp only [Program.fieldsOf, Tryz.underlying71]
  go_simp
  obtain ⟨a1, a2, a3⟩ := a
  obtain ⟨b1, b2, b3⟩ := b
  by_cases h1 : a1 = b1 <;> by_cases h2 : a2 = b2 <;> by_cases h3 : a3 = b3 <;> simp [h1, h2, h3]
theorem guardM (x y : Operand) (xs ys : Array Value) (W : World) : (eqGuard .eql 71 x y (.agg xs) (.agg ys)).run Tryz.prog W = .ok () W := run_eqGuard_agg W .eql _ x y xs ys (by kernel_rfl)
/-- the boxes n and good -/
def SmJ (Nb : Nat) (pre : List Nat) (X : Nat → Prop) (W : World) : Prop := W.heap[Nb]? = some (.cells #[.int .i64 (pre.length : Nat)] 3 (0, 0)) ∧ W.heap[Nb + 1]? = some (.cells #[.bool true] 4 (0, 0)) ∧ ∀ k, X k ↔ (k = Nb ∨ k = Nb + 1)
theorem smJ_stays (Nb : Nat) : Stays (SmJ Nb) := fun pre X V V' ⟨h1, h2, h3⟩ hl hf => ⟨hf.blk h1 (fun e => e ((h3 Nb).2 (.inl rfl))), hf.blk h2 (fun e => e ((h3 _).2 (.inr rfl))), h3⟩
/-- a member looked up is the one that is meant -/
theorem mem_found {l : List Mem} (hu : UpM l) {m : Mem} (hm : m ∈ l) : hasM l m.1 = true ∧ l.getD (ixM l m.1) default = m := by
  have h1 : hasM l m.1 = true := hasM_mem.2 ⟨m, hm, rfl⟩
  refine ⟨h1, ?_⟩
  obtain ⟨h2, h3⟩ := ixM_at hu h1
  rw [List.getD_eq_getElem?_getD, List.getElem?_eq_getElem h2, Option.getD_some]
  obtain ⟨j, hj, rfl⟩ := List.getElem_of_mem hm
  have hc := ixM_cut hu l[j].1 j hj
  have : ixM l l[j].1 = j := by
    have hle : ¬ j < ixM l l[j].1 := fun c => by have := hc.1 c; omega
    rcases Nat.lt_or_ge (ixM l l[j].1) j with a | a
    · have := List.pairwise_iff_getElem.1 hu _ _ h2 hj a
      omega
    · omega
  simp only [this]
set_option maxRecDepth 100000 in
set_option maxHeartbeats 32000000 in
theorem same_any {b1 b2 b3 b4 : Nat} {w : World} {F : Value} {A : Option Addr} {cw nS : Nat} {S1 : List RmE} {S2 : List RdE} (h : TalePr b1 w F (S1.map (·.B))) (hl1 : S1.length = nS) (hl2 : S2.length = nS) (hS : nS ≤ 1000)
    (hp : ∀ e ∈ S1, RoomAt b2 e.B e.q e.r w ∧ e.r.mem.length ≤ 1000) (hw : OwnPd b3 w (.slice A nS cw) (S2.map (·.B))) (hx : ∀ e ∈ S2, RxAt b4 e.B e.q e.x w) (hr : ∀ j (h1 : j < S1.length) (h2 : j < S2.length), R1 S1[j].r S2[j].x) :
    Calls Tryz.prog 23 #[F, .slice A nS cw] w fun e w' => e = .returned (.bool true) ∧ RowKit.Below w.heap.size w w' := by
  obtain ⟨Y, hYb, gf, lb, rfl, hseq0, hYl0, heg⟩ := tellsPr_tale h (by rw [List.length_map]; omega)
  obtain ⟨N, hN⟩ : ∃ N, w.heap.size = N := ⟨_, rfl⟩
  obtain ⟨w1, hw1⟩ : ∃ w1, (((w.alloc (Obj.cells #[Value.slice A nS cw] 30)).alloc (Obj.cells #[Value.bool false] 4)).alloc (Obj.cells #[Value.int .i64 0] 3)).alloc (Obj.cells #[Value.bool true] 4) = w1 := ⟨_, rfl⟩
  have z1 : w1.heap.size = N + 4 := by rw [← hw1, ← hN]; simp
  have f1 : Fr (fun _ => False) w w1 := by rw [← hw1]; exact ((((Fr.refl _ w).alloc _).alloc _).alloc _).alloc _
  have k0 : w1.heap[N]? = some (.cells #[.slice A nS cw] 30 (0, 0)) := by rw [← hw1, ← hN]; exact blk_alloc (blk_alloc (blk_alloc (heap_alloc_new w _) _) _) _
  have k1 : w1.heap[N + 1]? = some (.cells #[.bool false] 4 (0, 0)) := by rw [← hw1, ← hN]; exact blk_alloc (blk_alloc (heap_alloc2_new w _ _) _) _
  have k2 : w1.heap[N + 2]? = some (.cells #[.int .i64 0] 3 (0, 0)) := by
    rw [← hw1, ← hN]
    have := heap_alloc2_new (w.alloc (Obj.cells #[Value.slice A nS cw] 30)) (Obj.cells #[Value.bool false] 4) (Obj.cells #[Value.int .i64 0] 3)
    rw [World.size_alloc] at this
    exact blk_alloc this _
  have k3 : w1.heap[N + 3]? = some (.cells #[.bool true] 4 (0, 0)) := by
    rw [← hw1, ← hN]
    have := heap_alloc2_new ((w.alloc (Obj.cells #[Value.slice A nS cw] 30)).alloc (Obj.cells #[Value.bool false] 4)) (Obj.cells #[Value.int .i64 0] 3) (Obj.cells #[Value.bool true] 4)
    rwa [World.size_alloc, World.size_alloc] at this
  have hnil : ∀ W, (binOp BinOp.eql 52 (.func (.func gf) #[] lb) Value.nilFunc).run Tryz.prog W = .ok (.bool false) W := fun W => by rfl
  have HW := Lib.hid (And.intro hN hw1)
  have H := Lib.hid (And.intro f1 (And.intro k0 (And.intro k1 (And.intro k2 (And.intro k3 (And.intro z1 hN))))))
  have HD := Lib.hid (And.intro hl1 (And.intro hl2 (And.intro hS (And.intro hp (And.intro hw (And.intro hx hr))))))
  clear h f1 k0 k1 k2 k3 z1 hw1 hN hp hw hx hr hl1 hl2 hS
  refine (callsIn_wide (n := 20)).1 ?_
  refine callsIn_of_wp_marks Tryz.func23 rfl trivial ?_ rfl
  simp only [Tryz.ntmps23, List.size_toArray, List.length_cons, List.length_nil, Nat.reduceAdd, Nat.reduceSub, Array.replicate_succ, Array.replicate_zero, List.push_toArray, List.append_toArray, List.nil_append, List.cons_append]
  gi_wp2_with (simp only [hnil])
  rw [HW.out.1]
  rw [HW.out.2]
  obtain ⟨f1, k0, k1, k2, k3, z1, hN⟩ := H.out
  have hseq := hseq0.same fun b hb => f1.block b (hYl0 b hb) fun e => e
  have hYN : ∀ k, Y k → k < N := fun k hk => by have := hYl0 k hk; omega
  refine wpIn_rangeF (X := fun k => k = N + 2 ∨ k = N + 2 + 1) (Y := Y) (xs := S1.map (·.B)) (encs := encRm) (gf := gf) (lb := lb) (SmJ (N + 2)) (fun _ _ _ _ => False)
    rfl hseq (fun k hk => ⟨by omega, fun e => by have := hYN k e; omega⟩) (fun b hb => by have := hYN b hb; omega) (by omega) heg (fun _ => rfl)
    (smJ_stays _) (fun c s X1 V1 V2 h => h.elim) ⟨k2, k3, fun k => Iff.rfl⟩ ?round ?done (fun _ _ _ _ _ _ _ _ _ _ _ h => h.elim)
  case round =>
    rintro l2 pre x r X1 V KK rb hl2 hpx hI hG2 hxl hF hlV hK
    dsimp only [encRm]
    have HKK := Lib.hid hK
    have HV := Lib.hid (And.intro hpx (And.intro hI (And.intro hG2 (And.intro hxl (And.intro hF (And.intro hlV hl2))))))
    have HQ := Lib.hid (And.intro hseq0 (And.intro hYl0 hYN))
    clear hK hpx hI hG2 hxl hF hlV hl2 f1 k0 k1 k2 k3 z1 hN hseq hseq0 hYl0 hYN hYb heg
    gi_wp2_with fail
    refine HKK.out _ _ (Fr.refl _ _) fun Vb hfb hzb hsb hrb => ?_
    clear HKK KK
    obtain ⟨hpx, ⟨j2, j3, hX1⟩, hG2, hxl, hF, hlV, hl2⟩ := HV.out
    obtain ⟨f1, k0, k1, k2, k3, z1, hN⟩ := H.out
    obtain ⟨hl1, hl22, hS, hp, hw, hx, hr⟩ := HD.out
    obtain ⟨kk, hkk⟩ : ∃ kk, pre.length = kk := ⟨_, rfl⟩
    rw [hkk] at j2
    have hpl : kk < S1.length := by
      have := congrArg List.length hpx
      simp at this; omega
    obtain ⟨e, he⟩ : ∃ e, S1[kk] = e := ⟨_, rfl⟩
    have hxe : x = e.B := by
      have h5 : (S1.map (·.B))[kk]'(by simpa using hpl) = x := by
        subst hkk
        have : (pre ++ x :: r)[pre.length]'(by simp) = x := by simp
        rw [← this]
        congr 1
        exact hpx.symm
      rw [← h5, List.getElem_map, he]
    subst hxe
    obtain ⟨d, hd⟩ : ∃ d, S2[kk]'(by omega) = d := ⟨_, rfl⟩
    have hrr := hr kk hpl (by omega)
    rw [he, hd] at hrr
    have heS : e ∈ S1 := by rw [← he]; exact List.getElem_mem _
    have hdS : d ∈ S2 := by rw [← hd]; exact List.getElem_mem _
    obtain ⟨xB, hxB⟩ : ∃ xB, d.B = xB := ⟨_, rfl⟩
    obtain ⟨nx, hnx⟩ : ∃ nx, d.x.nm = nx := ⟨_, rfl⟩
    obtain ⟨ll, hll⟩ : ∃ ll, d.x.L.length = ll := ⟨_, rfl⟩
    obtain ⟨AL, cL, hvl⟩ := ownM_slice (hx d hdS).2.1
    rw [hll] at hvl
    obtain ⟨gw, rfl, hgw, hgc⟩ := reads_ownPd hw (by rw [List.length_map]; omega)
    have hgc1 := hgc kk (by rw [List.length_map]; omega)
    rw [List.getElem_map, hd, hxB, Nat.zero_add] at hgc1
    have hlll : ∀ k, k = l2 → ¬ X1 k := fun k e2 h5 => hxl (e2 ▸ h5)
    have v0 := hfb.blk (hF.blk k0 (by omega)) (by omega : ¬ N = l2)
    have v1 := hfb.blk (hF.blk k1 (by omega)) (by omega : ¬ N + 1 = l2)
    have v2 := hfb.blk j2 (fun e2 => hlll _ e2 ((hX1 _).2 (.inl rfl)))
    have v3 := hfb.blk j3 (fun e2 => hlll _ e2 ((hX1 _).2 (.inr rfl)))
    have fB : Fr (fun k => N ≤ k) w Vb := ((f1.mono (Y := fun k => N ≤ k) fun _ _ e => e.elim).trans3 hF fun k _ e2 => by rcases e2 with e2 | e2 <;> omega).trans3 hfb fun k _ e2 => by have : k = l2 := e2; show N ≤ k; omega
    have old : ∀ W, Fr (fun k => k = N + 3) Vb W → Fr (fun k => N ≤ k) w W := fun W hW => fB.trans3 hW fun k _ e2 => by have : k = N + 3 := e2; show N ≤ k; omega
    have hroom : ∀ W, Fr (fun k => k = N + 3) Vb W → RoomAt b2 e.B e.q e.r W := fun W hW => (hp e heS).1.fr (old W hW) fun k hk e2 => by have := ((hp e heS).1.lt k hk).2; have e3 : N ≤ k := e2; omega
    have hdoc : ∀ W, Fr (fun k => k = N + 3) Vb W → RxAt b4 d.B d.q d.x W := fun W hW => (hx d hdS).fr (old W hW) fun k hk e2 => by have := ((hx d hdS).lt k hk).2; have e3 : N ≤ k := e2; omega
    have cells : ∀ W, Fr (fun k => k = N + 3) Vb W → W.cell? ⟨N, 0, none⟩ = some (.slice (some ⟨gw, 0, none⟩) nS cw) ∧ W.cell? ⟨N + 2, 0, none⟩ = some (.int .i64 kk) ∧ W.cell? ⟨gw, kk, none⟩ = some (.pointer (some ⟨xB, 0, none⟩)) ∧ W.cell? ⟨xB, 0, none⟩ = some (.string (bs nx)) ∧ W.cell? ⟨xB, 2, none⟩ = some (.slice AL ll cL) := fun W hW => by
      have h5 := (hdoc W hW).1
      have a0 := blk_cell h5 0
      have a2 := blk_cell h5 2
      rw [hxB] at a0 a2
      refine ⟨blk_cell (hW.blk v0 (by show ¬ N = N + 3; omega)) 0, blk_cell (hW.blk v2 (by show ¬ N + 2 = N + 3; omega)) 0, ((old W hW).cell (p := ⟨gw, kk, none⟩) hgw fun e2 => by have e3 : N ≤ gw := e2; omega).trans hgc1, ?_, ?_⟩
      · rw [← hnx]; exact a0
      · rw [← hvl]; exact a2
    have hsub : ∀ W, Fr (fun _ => False) Vb W → Fr (fun k => k = N + 3) Vb W := fun W hW => hW.mono fun _ _ e2 => e2.elim
    have hnml : e.r.nm = nx := by rw [← hnx]; exact hrr.1
    have hmll : e.r.mem.length = ll := by rw [← hll]; exact hrr.2.1.length_eq
    have HFx := Lib.hid (fun W (hW : Fr (fun _ => False) Vb W) => by
      obtain ⟨a0, a2, a3, a4, a5⟩ := cells W (hsub W hW)
      exact (⟨blk_cell (hW.blk v3 fun e => e) 0, a0, a2, a3, a4, a5⟩ : W.cell? ⟨N + 3, 0, none⟩ = some (.bool true) ∧ W.cell? ⟨N, 0, none⟩ = some (.slice (some ⟨gw, 0, none⟩) nS cw) ∧ W.cell? ⟨N + 2, 0, none⟩ = some (.int .i64 kk) ∧ W.cell? ⟨gw, kk, none⟩ = some (.pointer (some ⟨xB, 0, none⟩)) ∧ W.cell? ⟨xB, 0, none⟩ = some (.string (bs nx)) ∧ W.cell? ⟨xB, 2, none⟩ = some (.slice AL ll cL)))
    have HNm : Hid (∀ W, Fr (fun _ => False) Vb W → Calls Tryz.prog 16 #[.pointer (some ⟨e.B, 0, none⟩)] W fun e2 w' => e2 = .returned (.string (bs nx)) ∧ w' = W) := Lib.hid fun W hW => by rw [← hnml]; exact name_any (hroom W (hsub W hW)).1
    have HLn : Hid (∀ W, Fr (fun _ => False) Vb W → Calls Tryz.prog 33 #[.pointer (some ⟨e.B, 0, none⟩)] W fun e2 w' => e2 = .returned (.int .i64 ll) ∧ w' = W) := Lib.hid fun W hW => by rw [← hmll]; exact rlen_any (hroom W (hsub W hW))
    have c0 := blk_cell v0 0
    have c2 := blk_cell v2 0
    have n1 : ¬ (nS : Int) ≤ (kk : Int) := by omega
    have n2 : (kk : Int) < (nS : Int) := by omega
    have n3 : decide ((kk : Int) ≥ (nS : Int)) = false := by simp; omega
    have n4 : (0 : Int) ≤ (kk : Int) := by omega
    have HC := Lib.hid (And.intro cells (And.intro hroom (And.intro hdoc (And.intro old hsub))))
    have HE := Lib.hid (And.intro v0 (And.intro v1 (And.intro v2 (And.intro v3 (And.intro hfb (And.intro hzb (And.intro hrb (And.intro fB (And.intro hkk (And.intro hpl (And.intro hrr (And.intro heS (And.intro hdS (And.intro hxB (And.intro hll (And.intro hvl (And.intro hmll hN)))))))))))))))))
    have HB := Lib.hid (And.intro hl1 (And.intro hl22 (And.intro hS (hp e heS).2)))
    clear hpx j2 j3 hX1 hG2 hxl hF hlV hl2 f1 k0 k1 k2 k3 z1 hN hl1 hl22 hS hp hw hx hr hkk hpl he hd hrr heS hdS hxB hnx hll hvl hgw hgc hgc1 hlll v0 v1 v2 v3 fB old hroom hdoc cells hsub hnml hmll hfb hzb hsb hrb
    gi_wp2_with fail
    refine wpIn_class_tail (C := fun W => Fr (fun _ => False) Vb W) 26 (by kernel_rfl) (by kernel_rfl) (by kernel_rfl) ((Fr.refl (fun _ => False) Vb).drew) ?_
    simp only [List.take_succ_cons, List.take_zero, List.drop_succ_cons, List.drop_zero]
    refine quiet_step_w (fun _ => trivial) (fun K hK => ?_)
    go_simp
    refine ⟨.bool true, fun W hW => ?_, hK _ ?_⟩
    · obtain ⟨q0, q1, q2, q3, q4, q5⟩ := HFx.out W hW; go_simp
    clear hK K
    refine quiet_step_w (fun _ => trivial) (fun K hK => ?_)
    go_simp
    first | refine ⟨_, fun _ _ => rfl, hK _ ?_⟩ | refine hK _ ?_
    clear hK K
    refine quiet_step_w (fun _ => trivial) (fun K hK => ?_)
    go_simp
    first | refine ⟨_, fun _ _ => rfl, hK _ ?_⟩ | refine hK _ ?_
    clear hK K
    refine quiet_step_w (fun _ => trivial) (fun K hK => ?_)
    go_simp
    refine ⟨.string (bs nx), fun W hW => ?_, hK _ ?_⟩
    · refine (calls_wide (.inr ⟨l2, rfl⟩) (HNm.out W hW)).mono ?_
      rintro e2 W2 ⟨rfl, rfl⟩; exact ⟨rfl, hW⟩
    clear hK K
    refine quiet_step_w (fun _ => trivial) (fun K hK => ?_)
    go_simp
    refine ⟨.slice (some ⟨gw, 0, none⟩) nS cw, fun W hW => ?_, hK _ ?_⟩
    · obtain ⟨q0, q1, q2, q3, q4, q5⟩ := HFx.out W hW; go_simp
    clear hK K
    refine quiet_step_w (fun _ => trivial) (fun K hK => ?_)
    go_simp
    refine ⟨.int .i64 kk, fun W hW => ?_, hK _ ?_⟩
    · obtain ⟨q0, q1, q2, q3, q4, q5⟩ := HFx.out W hW; go_simp
    clear hK K
    refine quiet_step_w (fun _ => trivial) (fun K hK => ?_)
    go_simp
    first | refine ⟨_, fun _ _ => rfl, hK _ ?_⟩ | refine hK _ ?_
    clear hK K
    refine quiet_step_w (fun _ => trivial) (fun K hK => ?_)
    go_simp
    refine ⟨.pointer (some ⟨xB, 0, none⟩), fun W hW => ?_, hK _ ?_⟩
    · obtain ⟨q0, q1, q2, q3, q4, q5⟩ := HFx.out W hW; go_simp
    clear hK K
    refine quiet_step_w (fun _ => trivial) (fun K hK => ?_)
    go_simp
    first | refine ⟨_, fun _ _ => rfl, hK _ ?_⟩ | refine hK _ ?_
    clear hK K
    refine quiet_step_w (fun _ => trivial) (fun K hK => ?_)
    go_simp
    first | refine ⟨_, fun _ _ => rfl, hK _ ?_⟩ | refine hK _ ?_
    clear hK K
    refine quiet_step_w (fun _ => trivial) (fun K hK => ?_)
    go_simp
    refine ⟨.string (bs nx), fun W hW => ?_, hK _ ?_⟩
    · obtain ⟨q0, q1, q2, q3, q4, q5⟩ := HFx.out W hW; go_simp
    clear hK K
    refine quiet_step_w (fun _ => trivial) (fun K hK => ?_)
    go_simp
    refine ⟨.bool true, fun W hW => ?_, hK _ ?_⟩
    · (first | rfl | (simp; done) | (simp; omega))
    clear hK K
    refine quiet_step_w (fun _ => trivial) (fun K hK => ?_)
    go_simp
    first | refine ⟨_, fun _ _ => rfl, hK _ ?_⟩ | refine hK _ ?_
    clear hK K
    refine quiet_step_w (fun _ => trivial) (fun K hK => ?_)
    go_simp
    first | refine ⟨_, fun _ _ => rfl, hK _ ?_⟩ | refine hK _ ?_
    clear hK K
    refine quiet_step_w (fun _ => trivial) (fun K hK => ?_)
    go_simp
    first | refine ⟨_, fun _ _ => rfl, hK _ ?_⟩ | refine hK _ ?_
    clear hK K
    refine quiet_step_w (fun _ => trivial) (fun K hK => ?_)
    go_simp
    refine ⟨.int .i64 ll, fun W hW => ?_, hK _ ?_⟩
    · refine (calls_wide (.inr ⟨l2, rfl⟩) (HLn.out W hW)).mono ?_
      rintro e2 W2 ⟨rfl, rfl⟩; exact ⟨rfl, hW⟩
    clear hK K
    refine quiet_step_w (fun _ => trivial) (fun K hK => ?_)
    go_simp
    refine ⟨.slice (some ⟨gw, 0, none⟩) nS cw, fun W hW => ?_, hK _ ?_⟩
    · obtain ⟨q0, q1, q2, q3, q4, q5⟩ := HFx.out W hW; go_simp
    clear hK K
    refine quiet_step_w (fun _ => trivial) (fun K hK => ?_)
    go_simp
    refine ⟨.int .i64 kk, fun W hW => ?_, hK _ ?_⟩
    · obtain ⟨q0, q1, q2, q3, q4, q5⟩ := HFx.out W hW; go_simp
    clear hK K
    refine quiet_step_w (fun _ => trivial) (fun K hK => ?_)
    go_simp
    first | refine ⟨_, fun _ _ => rfl, hK _ ?_⟩ | refine hK _ ?_
    clear hK K
    refine quiet_step_w (fun _ => trivial) (fun K hK => ?_)
    go_simp
    refine ⟨.pointer (some ⟨xB, 0, none⟩), fun W hW => ?_, hK _ ?_⟩
    · obtain ⟨q0, q1, q2, q3, q4, q5⟩ := HFx.out W hW; go_simp
    clear hK K
    refine quiet_step_w (fun _ => trivial) (fun K hK => ?_)
    go_simp
    first | refine ⟨_, fun _ _ => rfl, hK _ ?_⟩ | refine hK _ ?_
    clear hK K
    refine quiet_step_w (fun _ => trivial) (fun K hK => ?_)
    go_simp
    first | refine ⟨_, fun _ _ => rfl, hK _ ?_⟩ | refine hK _ ?_
    clear hK K
    refine quiet_step_w (fun _ => trivial) (fun K hK => ?_)
    go_simp
    refine ⟨.slice AL ll cL, fun W hW => ?_, hK _ ?_⟩
    · obtain ⟨q0, q1, q2, q3, q4, q5⟩ := HFx.out W hW; go_simp
    clear hK K
    refine quiet_step_w (fun _ => trivial) (fun K hK => ?_)
    go_simp
    first | refine ⟨_, fun _ _ => rfl, hK _ ?_⟩ | refine hK _ ?_
    clear hK K
    refine quiet_step_w (fun _ => trivial) (fun K hK => ?_)
    go_simp
    refine ⟨.bool true, fun W hW => ?_, hK _ ?_⟩
    · (first | rfl | (simp; done) | (simp; omega))
    clear hK K
    refine quiet_step_w (fun _ => trivial) (fun K hK => ?_)
    go_simp
    first | refine ⟨_, fun _ _ => rfl, hK _ ?_⟩ | refine hK _ ?_
    clear hK K
    refine wpQuietIn_nil ?_
    intro V1 hV1
    have e3 := hV1.blk HE.out.2.2.2.1 fun e => e
    have d3 := blk_free e3 0
    have cc3 := blk_cell e3 0
    obtain ⟨V2, hV2⟩ : ∃ V2, V1.setCell ⟨N + 3, 0, none⟩ (.bool true) = V2 := ⟨_, rfl⟩
    have HW2 := Lib.hid (And.intro hV2 (And.intro (by rw [← hV2]; exact (hV1.mono (Y := fun k => k = N + 3) fun _ _ e => e.elim).setCell _ rfl _ : Fr (fun k => k = N + 3) Vb V2) (by rw [← hV2]; exact blk_set e3 0 _ : V2.heap[N + 3]? = some (.cells #[.bool true] 4 (0, 0)))))
    clear hV2 hV1 e3 HFx HNm HLn c0 c2
    gi_wp2_with fail
    rw [HW2.out.1]
    gi_loopw [8, 9, 10] (fun ti _ _ wr => ∃ i : Nat, ti = .int .i64 i ∧ i ≤ ll ∧ Hid (Fr (fun k => k = N + 3) Vb wr ∧ wr.heap[N + 3]? = some (.cells #[.bool true] 4 (0, 0)))) (fun ti _ _ _ => ll - (RowKit.intOf ti).toNat)
    case atStart => exact ⟨0, rfl, Nat.zero_le _, Lib.hid HW2.out.2⟩
    case round =>
      obtain ⟨i, rfl, hi, HL⟩ := hrel
      obtain ⟨cells, hroom, hdoc, old, hsub⟩ := HC.out
      obtain ⟨a0, a2, a4, a5, a6⟩ := cells wr HL.out.1
      by_cases hlt : i < ll
      · obtain ⟨_, _, _, _, _, _, _, _, _, _, hrr, heS, hdS, hxB, hll, hvl, hmll, hN⟩ := HE.out
        have hM : ReadsM wr AL d.x.L := reads_ownM (by rw [← hvl]; exact (hdoc wr HL.out.1).2.1)
        obtain ⟨gl, ol, rfl, hgl, hrd⟩ := hM (by omega)
        obtain ⟨⟨m1, m2, m3⟩, hm⟩ : ∃ m : Mem, d.x.L[i]'(by omega) = m := ⟨_, rfl⟩
        have hmL : (m1, m2, m3) ∈ d.x.L := by rw [← hm]; exact List.getElem_mem _
        obtain ⟨t0, t1, t2⟩ := hrd i (by omega)
        rw [hm] at t0 t1 t2
        dsimp only at t0 t1 t2
        have hfd := mem_found hrr.2.2 (hrr.2.1.mem_iff.2 hmL)
        have HMb := Lib.hid (member_any2 (hroom wr HL.out.1) m1 (by have := HB.out.2.2.2; omega))
        rw [hfd.1, if_pos rfl, hfd.2] at HMb
        unfold memV at HMb
        dsimp only at HMb
        have hrd2 : ∀ W, Fr (fun k => k = N + 3) Vb W → W.cell? ⟨gl, ol + i * 3, none⟩ = some (.int .i64 m1) ∧ W.cell? ⟨gl, ol + i * 3 + 1, none⟩ = some (.bool m2) ∧ W.cell? ⟨gl, ol + i * 3 + 2, none⟩ = some (.bool m3) := fun W hW => by
          have hM2 : ReadsM W (some ⟨gl, ol, none⟩) d.x.L := reads_ownM (by rw [← hvl]; exact (hdoc W hW).2.1)
          obtain ⟨g2, o2, e2, _, hrd⟩ := hM2 (by omega)
          cases e2
          have := hrd i (by omega)
          rw [hm] at this
          exact this
        have HT := Lib.hid hrd2
        have hl9 : ll ≤ 1000 := by have := HB.out.2.2.2; omega
        have p1 : (i : Int) < (ll : Int) := by omega
        have p2 : decide ((i : Int) < (ll : Int)) = true := by simp; omega
        have p3 : (0 : Int) ≤ (i : Int) := by omega
        clear cells hroom hdoc old hsub hrr heS hdS hxB hll hvl hmll hN hM hgl hrd hm hmL hfd hrd2
        gi_wp2_with fail
        refine ⟨trivial, (calls_wide (.inr ⟨l2, rfl⟩) HMb.out).mono ?_⟩
        rintro e2 V4 ⟨rfl, b4⟩
        obtain ⟨Bm, hBm⟩ : ∃ Bm, V4.heap.size = Bm := ⟨_, rfl⟩
        obtain ⟨W5, hW5⟩ : ∃ W5, V4.alloc (.cells #[.int .i64 m1, .bool m2, .bool m3] 71) = W5 := ⟨_, rfl⟩
        have f45 : Fr (fun _ => False) wr W5 := by rw [← hW5]; exact (Fr.of_below (X := fun _ => False) b4).alloc _
        have f5 : Fr (fun k => k = N + 3) Vb W5 := HL.out.1.trans3 f45 fun _ _ e => e.elim
        have k5 : W5.heap[Bm]? = some (.cells #[.int .i64 m1, .bool m2, .bool m3] 71 (0, 0)) := by rw [← hW5, ← hBm]; exact heap_alloc_new V4 _
        have e5 := f45.blk HL.out.2 fun e => e
        have HFi := Lib.hid (fun W (hW : Fr (fun _ => False) W5 W) => by
          have hW2 : Fr (fun k => k = N + 3) Vb W := f5.trans3 hW fun _ _ e => e.elim
          obtain ⟨a0, a2, a4, a5, a6⟩ := HC.out.1 W hW2
          obtain ⟨t0, t1, t2⟩ := HT.out W hW2
          have k6 := hW.blk k5 fun e => e
          exact (⟨blk_cell (hW.blk e5 fun e => e) 0, a0, a2, a4, a5, a6, blk_cell k6 0, blk_cell k6 1, blk_cell k6 2, t0, t1, t2⟩ : W.cell? ⟨N + 3, 0, none⟩ = some (.bool true) ∧ W.cell? ⟨N, 0, none⟩ = some (.slice (some ⟨gw, 0, none⟩) nS cw) ∧ W.cell? ⟨N + 2, 0, none⟩ = some (.int .i64 kk) ∧ W.cell? ⟨gw, kk, none⟩ = some (.pointer (some ⟨xB, 0, none⟩)) ∧ W.cell? ⟨xB, 0, none⟩ = some (.string (bs nx)) ∧ W.cell? ⟨xB, 2, none⟩ = some (.slice (some ⟨gl, ol, none⟩) ll cL) ∧ W.cell? ⟨Bm, 0, none⟩ = some (.int .i64 m1) ∧ W.cell? ⟨Bm, 1, none⟩ = some (.bool m2) ∧ W.cell? ⟨Bm, 2, none⟩ = some (.bool m3) ∧ W.cell? ⟨gl, ol + i * 3, none⟩ = some (.int .i64 m1) ∧ W.cell? ⟨gl, ol + i * 3 + 1, none⟩ = some (.bool m2) ∧ W.cell? ⟨gl, ol + i * 3 + 2, none⟩ = some (.bool m3)))
        have HW5 := Lib.hid (And.intro hW5 (And.intro hBm (And.intro f5 e5)))
        have heqm : ∀ W, (binOp .eql 71 (.agg #[.int .i64 m1, .bool m2, .bool m3]) (.agg #[.int .i64 m1, .bool m2, .bool m3])).run Tryz.prog W = .ok (.bool true) W := fun W => by have := eqlM (m1, m2, m3) (m1, m2, m3) W; rw [decide_eq_true rfl] at this; exact this
        have hgrm : ∀ x y W, (eqGuard .eql 71 x y (.agg #[.int .i64 m1, .bool m2, .bool m3]) (.agg #[.int .i64 m1, .bool m2, .bool m3])).run Tryz.prog W = .ok () W := fun x y W => guardM x y _ _ W
        clear b4 hBm hW5 f45 f5 k5 e5 t0 t1 t2 a0 a2 a4 a5 a6 HMb
        gi_wp2_with fail
        rw [HW5.out.1]
        rw [HW5.out.2.1]
        refine wpIn_class_tail (C := fun W => Fr (fun _ => False) W5 W) 18 (by kernel_rfl) (by kernel_rfl) (by kernel_rfl) ((Fr.refl (fun _ => False) W5).drew) ?_
        simp only [List.take_succ_cons, List.take_zero, List.drop_succ_cons, List.drop_zero]
        refine quiet_step_w (fun _ => trivial) (fun K hK => ?_)
        go_simp
        refine ⟨.bool true, fun W hW => ?_, hK _ ?_⟩
        · obtain ⟨q0, q1, q2, q3, q4, q5, q6, q7, q8, q9, qa, qb⟩ := HFi.out W hW; go_simp
        clear hK K
        refine quiet_step_w (fun _ => trivial) (fun K hK => ?_)
        go_simp
        first | refine ⟨_, fun _ _ => rfl, hK _ ?_⟩ | refine hK _ ?_
        clear hK K
        refine quiet_step_w (fun _ => trivial) (fun K hK => ?_)
        go_simp
        first | refine ⟨_, fun _ _ => rfl, hK _ ?_⟩ | refine hK _ ?_
        clear hK K
        refine quiet_step_w (fun _ => trivial) (fun K hK => ?_)
        go_simp
        first | refine ⟨_, fun _ _ => rfl, hK _ ?_⟩ | refine hK _ ?_
        clear hK K
        refine quiet_step_w (fun _ => trivial) (fun K hK => ?_)
        go_simp
        first | refine ⟨_, fun _ _ => rfl, hK _ ?_⟩ | refine hK _ ?_
        clear hK K
        refine quiet_step_w (fun _ => trivial) (fun K hK => ?_)
        go_simp
        refine ⟨.agg #[.int .i64 m1, .bool m2, .bool m3], fun W hW => ?_, hK _ ?_⟩
        · obtain ⟨q0, q1, q2, q3, q4, q5, q6, q7, q8, q9, qa, qb⟩ := HFi.out W hW; go_simp
        clear hK K
        refine quiet_step_w (fun _ => trivial) (fun K hK => ?_)
        go_simp
        refine ⟨.slice (some ⟨gw, 0, none⟩) nS cw, fun W hW => ?_, hK _ ?_⟩
        · obtain ⟨q0, q1, q2, q3, q4, q5, q6, q7, q8, q9, qa, qb⟩ := HFi.out W hW; go_simp
        clear hK K
        refine quiet_step_w (fun _ => trivial) (fun K hK => ?_)
        go_simp
        refine ⟨.int .i64 kk, fun W hW => ?_, hK _ ?_⟩
        · obtain ⟨q0, q1, q2, q3, q4, q5, q6, q7, q8, q9, qa, qb⟩ := HFi.out W hW; go_simp
        clear hK K
        refine quiet_step_w (fun _ => trivial) (fun K hK => ?_)
        go_simp
        first | refine ⟨_, fun _ _ => rfl, hK _ ?_⟩ | refine hK _ ?_
        clear hK K
        refine quiet_step_w (fun _ => trivial) (fun K hK => ?_)
        go_simp
        refine ⟨.pointer (some ⟨xB, 0, none⟩), fun W hW => ?_, hK _ ?_⟩
        · obtain ⟨q0, q1, q2, q3, q4, q5, q6, q7, q8, q9, qa, qb⟩ := HFi.out W hW; go_simp
        clear hK K
        refine quiet_step_w (fun _ => trivial) (fun K hK => ?_)
        go_simp
        first | refine ⟨_, fun _ _ => rfl, hK _ ?_⟩ | refine hK _ ?_
        clear hK K
        refine quiet_step_w (fun _ => trivial) (fun K hK => ?_)
        go_simp
        first | refine ⟨_, fun _ _ => rfl, hK _ ?_⟩ | refine hK _ ?_
        clear hK K
        refine quiet_step_w (fun _ => trivial) (fun K hK => ?_)
        go_simp
        refine ⟨.slice (some ⟨gl, ol, none⟩) ll cL, fun W hW => ?_, hK _ ?_⟩
        · obtain ⟨q0, q1, q2, q3, q4, q5, q6, q7, q8, q9, qa, qb⟩ := HFi.out W hW; go_simp
        clear hK K
        refine quiet_step_w (fun _ => trivial) (fun K hK => ?_)
        go_simp
        first | refine ⟨_, fun _ _ => rfl, hK _ ?_⟩ | refine hK _ ?_
        clear hK K
        refine quiet_step_w (fun _ => trivial) (fun K hK => ?_)
        go_simp
        first | refine ⟨_, fun _ _ => rfl, hK _ ?_⟩ | refine hK _ ?_
        clear hK K
        refine quiet_step_w (fun _ => trivial) (fun K hK => ?_)
        go_simp
        refine ⟨.agg #[.int .i64 m1, .bool m2, .bool m3], fun W hW => ?_, hK _ ?_⟩
        · obtain ⟨q0, q1, q2, q3, q4, q5, q6, q7, q8, q9, qa, qb⟩ := HFi.out W hW; go_simp
        clear hK K
        refine quiet_step_w (fun _ => trivial) (fun K hK => ?_)
        go_simp
        refine ⟨.bool true, fun W hW => ?_, hK _ ?_⟩
        · first | (simp only [hgrm, heqm]; done) | (simp [hgrm, heqm, go_sem]; done) | (trace_state; fail)
        clear hK K
        refine quiet_step_w (fun _ => trivial) (fun K hK => ?_)
        go_simp
        first | refine ⟨_, fun _ _ => rfl, hK _ ?_⟩ | refine hK _ ?_
        clear hK K
        refine wpQuietIn_nil ?_
        intro V6 hV6
        have e6 := hV6.blk HW5.out.2.2.2 fun e => e
        have d6 := blk_free e6 0
        have cc6 := blk_cell e6 0
        have hfin : Hid (Fr (fun k => k = N + 3) Vb (V6.setCell ⟨N + 3, 0, none⟩ (.bool true)) ∧ (V6.setCell ⟨N + 3, 0, none⟩ (.bool true)).heap[N + 3]? = some (.cells #[.bool true] 4 (0, 0))) := Lib.hid ⟨(HW5.out.2.2.1.trans3 hV6 fun _ _ e => e.elim).setCell _ rfl _, blk_set e6 0 _⟩
        clear hV6 e6 HFi heqm hgrm HT
        gi_wp2_with fail
        go_roundw
        case rel => exact ⟨i + 1, by go_num, by omega, hfin⟩
        case measure => simp [RowKit.intOf]; omega
      · have p1 : ¬ (i : Int) < (ll : Int) := by omega
        have p2 : decide ((i : Int) < (ll : Int)) = false := by simp; omega
        have g2 := HL.out.1.blk HE.out.2.2.1 (by show ¬ N + 2 = N + 3; omega)
        have hk1 : kk ≤ 1000 := by have := HB.out.2.2.1; omega
        have d2 := blk_free g2 0
        have HG2 := Lib.hid g2
        clear cells hroom hdoc old hsub g2
        gi_wp2_with fail
        obtain ⟨v0, v1, v2, v3, hfb, hzb, hrb, fB, hkk, hpl, _, _, _, _, _, _, _, hN⟩ := HE.out
        obtain ⟨hpx, ⟨j2, j3, hX1⟩, hG2, hxl, hF, hlV, hl2⟩ := HV.out
        have hne2 : l2 ≠ N + 2 := fun e2 => hxl ((hX1 _).2 (.inl e2))
        have hne3 : l2 ≠ N + 2 + 1 := fun e2 => hxl ((hX1 _).2 (.inr e2))
        have hsz := HL.out.1.size
        have hzV : Vb.heap.size = V.heap.size := hzb
        have fr2 : Fr (fun k => k = l2 ∨ X1 k) V (wr.setCell ⟨N + 2, 0, none⟩ (.int .i64 ((kk : Int) + 1))) := ((hfb.mono (Y := fun k => k = l2 ∨ X1 k) fun k _ e => .inl e).trans3 HL.out.1 fun k _ e2 => .inr ((hX1 k).2 (.inr (by have : k = N + 3 := e2; omega)))).setCell _ (.inr ((hX1 _).2 (.inl rfl))) _
        refine ⟨X1, fun k hk => ⟨by simp; have := (hG2 k hk).1; omega, fun _ => hk⟩, fr2, blk_other (HL.out.1.blk hrb (by show ¬ l2 = N + 3; omega)) _ (by simpa using hne2) _, ?_, blk_other HL.out.2 _ (by simp) _, hX1⟩
        rw [List.length_append, List.length_singleton, hkk]
        exact blk_set HG2.out 0 _
  case done =>
    rintro D X2 V hD hxD hG hF ⟨j2, j3, hX2⟩ hdef
    have q0 := hF.blk k0 (by omega)
    have q1 := hF.blk k1 (by omega)
    have c0 := blk_cell q0 0
    have c1 := blk_cell q1 0
    have d1 := blk_free q1 0
    have c2 := blk_cell j2 0
    have c3 := blk_cell j3 0
    rw [List.length_map, HD.out.1] at c2
    have HE := Lib.hid (And.intro hF (And.intro hdef (And.intro hD q1)))
    clear q0 q1 j2 j3 hF hdef hxD hX2 hD hG hseq hseq0 hYl0 heg hYb hYN f1 k0 k1 k2 k3 z1 hN
    gi_wp2_with fail
    obtain ⟨hF, hdef, hD, q1⟩ := HE.out
    obtain ⟨f1, k0, k1, k2, k3, z1, hN⟩ := H.out
    obtain ⟨W3, hW3⟩ : ∃ W3, V.setCell ⟨N + 1, 0, none⟩ (Value.bool true) = W3 := ⟨_, rfl⟩
    have e3 : W3.heap[N + 1]? = some (.cells #[.bool true] 4 (0, 0)) := by rw [← hW3]; exact blk_set q1 0 _
    have d3 : W3.heap[D]? = some (.deferred (some [])) := by rw [← hW3]; exact blk_other hdef _ (by simp; omega) _
    have f5 : RowKit.Below w.heap.size w W3 := by
      have h5 : Fr (fun k => N ≤ k) w V := (f1.mono (Y := fun k => N ≤ k) fun _ _ e => e.elim).trans3 hF fun k _ e => by rcases e with e | e <;> omega
      rw [← hW3]
      exact (h5.below (Nat.le_refl _) fun k hk e => by have e2 : N ≤ k := e; omega).setCell (by simp; omega) _
    (try rw [hW3])
    refine leaves_one D _ d3 fun w' hf => ?_
    have e4 := hf.blk e3 (by omega)
    exact ⟨.bool true, results_box rfl _ _ (N + 1) _ _ rfl (blk_cell e4 0) Tryz.underlying4 rfl, rfl, f5.trans (hf.below f5.size fun k _ e => by omega)⟩
end Go.Proofs.YtlkeomcillencaaGreat
end
