/- Texts of this proof, one behind the other. -/
import Derived.Test.YtlkeomcillencaaGreatRoomsPeersG19
import Derived.Test.YtlkeomcillencaaGreatRoomsPeersG20
import Derived.Test.YtlkeomcillencaaGreatRoomsPeersG15
import Derived.Test.YtlkeomcillencaaGreatRoomsPeersG16
set_option linter.unusedVariables false
set_option linter.unusedSimpArgs false
section
/- Layer 20: the document's Join and Part, as lists; both sides keep to one another. -/
namespace Go.Proofs.YtlkeomcillencaaGreat
open Go Go.RowKit Go.Maps Go.Sort Go.Shelf Go.Lib

def onX (id : Int) (x : Rx) : Bool := decide (0 ≤ atM x.L id)
def getXs (X : List Rx) (k : List UInt8) : Option Rx := X.find? fun x => decide (foldL x.nm = k)
def ofXs (X : List Rx) (id : Int) : List Rx := X.filter (onX id)
def addXs (X : List Rx) (id : Int) (k : List UInt8) : List Rx := X.map fun x => if foldL x.nm = k then addX x id false else x
def partXr (id : Int) (k : List UInt8) (x : Rx) : Option Rx := if foldL x.nm = k ∧ onX id x = true then (if (dropX x id).L = [] then none else some (dropX x id)) else some x
def partXs (X : List Rx) (id : Int) (k : List UInt8) : List Rx := X.filterMap (partXr id k)
def joinXs (mr mj mb : Int) (X : List Rx) (id : Int) (nm : List UInt8) : List Rx × Option Rx :=
  match getXs X (foldL nm) with
  | some x => if onX id x then (X, some x) else if mj ≤ ((ofXs X id).length : Int) then (X, none) else (addXs X id (foldL nm), some (addX x id false))
  | none => if mj ≤ ((ofXs X id).length : Int) ∨ mr ≤ (X.length : Int) then (X, none) else (X ++ [addX (rx0 nm mb) id true], some (addX (rx0 nm mb) id true))
theorem getXs_map (E : List RdE) (k : List UInt8) : getXs (E.map (·.x)) k = (getD E k).map (·.x) := by unfold getXs getD; rw [List.find?_map]; rfl
theorem ofXs_map (E : List RdE) (id : Int) : ofXs (E.map (·.x)) id = (E.filter (onD id)).map (·.x) := by unfold ofXs; rw [List.filter_map]; rfl
theorem keysD_oth {E1 E2 : List RdE} {f : RdE} (hn : ((E1 ++ f :: E2).map keyD).Nodup) {e : RdE} (he : e ∈ E1 ∨ e ∈ E2) : keyD e ≠ keyD f := by
  rw [List.map_append, List.map_cons, List.nodup_append, List.nodup_cons] at hn
  rcases he with a | a
  · exact hn.2.2 _ (List.mem_map_of_mem a) _ (List.mem_cons_self ..)
  · exact fun e1 => hn.2.1.1 (e1 ▸ List.mem_map_of_mem a)
theorem getD_of {E : List RdE} (hn : (E.map keyD).Nodup) {e : RdE} (he : e ∈ E) : getD E (keyD e) = some e := by
  cases hg : getD E (keyD e) with
  | none => exact absurd (List.mem_map_of_mem he) (getD_none hg)
  | some f =>
    obtain ⟨h1, h2⟩ := getD_mem hg
    obtain ⟨A, B, rfl⟩ := List.append_of_mem he
    rcases List.mem_append.1 h1 with a | a
    · exact absurd h2 (keysD_oth hn (.inl a))
    · rcases List.mem_cons.1 a with rfl | a
      · rfl
      · exact absurd h2 (keysD_oth hn (.inr a))
theorem addXs_mid {E1 E2 : List RdE} {f : RdE} {id : Int} (hk : ((E1 ++ f :: E2).map keyD).Nodup) : addXs ((E1 ++ f :: E2).map (·.x)) id (keyD f) = E1.map (·.x) ++ addX f.x id false :: E2.map (·.x) := by
  have same : ∀ (P : List RdE), (∀ e ∈ P, keyD e ≠ keyD f) → addXs (P.map (·.x)) id (keyD f) = P.map (·.x) := fun P hP => by
    unfold addXs
    rw [List.map_map]
    refine List.map_congr_left fun e he => ?_
    exact if_neg (hP e he)
  have h1 := same E1 fun e he => keysD_oth hk (.inl he)
  have h2 := same E2 fun e he => keysD_oth hk (.inr he)
  unfold addXs at h1 h2 ⊢
  rw [List.map_append, List.map_append, h1, List.map_cons, List.map_cons, h2, if_pos (show foldL f.x.nm = keyD f from rfl)]
theorem partXs_mid {E1 E2 : List RdE} {f : RdE} {id : Int} (hk : ((E1 ++ f :: E2).map keyD).Nodup) : partXs ((E1 ++ f :: E2).map (·.x)) id (keyD f) = E1.map (·.x) ++ ((partXr id (keyD f) f.x).toList ++ E2.map (·.x)) := by
  have same : ∀ (P : List RdE), (∀ e ∈ P, keyD e ≠ keyD f) → (P.map (·.x)).filterMap (partXr id (keyD f)) = P.map (·.x) := fun P hP => filterMap_same fun a ha => by
    obtain ⟨e, he, rfl⟩ := List.mem_map.1 ha
    exact if_neg fun e9 => hP e he e9.1
  have h1 := same E1 fun e he => keysD_oth hk (.inl he)
  have h2 := same E2 fun e he => keysD_oth hk (.inr he)
  unfold partXs
  rw [List.map_append, List.filterMap_append, h1, List.map_cons]
  congr 1
  cases hp : partXr id (keyD f) f.x with
  | none => rw [List.filterMap_cons_none hp, h2]; rfl
  | some r => rw [List.filterMap_cons_some hp, h2]; rfl
theorem partXs_not {E : List RdE} {id : Int} {k : List UInt8} (hn : (E.map keyD).Nodup) (h : ∀ f, getD E k = some f → onD id f = false) : partXs (E.map (·.x)) id k = E.map (·.x) := filterMap_same fun a ha => by
  obtain ⟨e, he, rfl⟩ := List.mem_map.1 ha
  refine if_neg fun e2 => ?_
  have h1 := getD_of hn he
  rw [show keyD e = k from e2.1] at h1
  have h2 := h e h1
  rw [show onD id e = true from e2.2] at h2
  cases h2
theorem dropX_len (x : Rx) (id : Int) : (dropX x id).L.length ≤ x.L.length := by
  unfold dropX
  split
  · simp only [List.length_append, List.length_take, List.length_drop]; omega
  · exact Nat.le_refl _
theorem dropX_gs (x : Rx) (id : Int) : (dropX x id).gs = x.gs := by unfold dropX; split <;> rfl
theorem addX_len (x : Rx) (id : Int) (op : Bool) : (addX x id op).L.length ≤ x.L.length + 1 := by
  unfold addX
  split
  · omega
  · simp
theorem addX_gs {x : Rx} (id : Int) (op : Bool) (h : x.gs = []) : (addX x id op).gs = [] := by
  unfold addX
  split
  · exact h
  · rw [h]; rfl
theorem memD_mid {E1 E2 : List RdE} {f e : RdE} : e ∈ E1 ++ f :: E2 ↔ e ∈ E1 ∨ e = f ∨ e ∈ E2 := by simp
/-- Part in one word -/
def PartDW (base R n : Nat) (C : Nat → Tag) (mr mj mb : Int) (X : List Rx) (id : Int) (k : List UInt8) (w : World) (e : Ending) (w' : World) : Prop :=
  ∃ E', (∃ bo, e = .returned (.bool bo)) ∧ RdTo base R C mr mj mb E' w w' ∧ RdLg n E' ∧ E'.map (·.x) = partXs X id k
theorem lgD_of {n : Nat} {E E' : List RdE} (h : RdLg n E) (he : E'.map (·.x) = E.map (·.x)) : RdLg n E' := by
  have hl : E'.length = E.length := by have := congrArg List.length he; simpa using this
  have hm : ∀ e ∈ E', ∃ f ∈ E, f.x = e.x := fun e hm => by
    have : e.x ∈ E.map (·.x) := by rw [← he]; exact List.mem_map_of_mem hm
    obtain ⟨f, hf, e2⟩ := List.mem_map.1 this
    exact ⟨f, hf, e2⟩
  exact ⟨by rw [hl]; exact h.elen, fun e he => by obtain ⟨f, hf, e2⟩ := hm e he; rw [← e2]; exact h.llen f hf, fun e he => by obtain ⟨f, hf, e2⟩ := hm e he; rw [← e2]; exact h.gs f hf, fun e he => by obtain ⟨f, hf, e2⟩ := hm e he; rw [← e2]; exact h.nms f hf⟩
theorem PartD.to {base : Nat} {w w' : World} {e : Ending} {R n : Nat} {v : Value} {C : Nat → Tag} {mr mj mb : Int} {E : List RdE} (h : RdPh base w R v C mr mj mb E) (hl : RdLg n E) {id : Int} {k : List UInt8} (hp : PartD base R C mr mj mb E id k w e w') : PartDW base R n C mr mj mb (E.map (·.x)) id k w e w' := by
  rcases hp with ⟨h1, rfl, E', h2, h3⟩ | ⟨E1, f, E2, rfl, rfl, hm, rfl, hc⟩
  · exact ⟨E', ⟨_, rfl⟩, h2, lgD_of hl h3, by rw [h3, partXs_not h.keys h1]⟩
  · have hkk := h.keys
    rcases hc with ⟨hd, hto⟩ | ⟨hd, q', hto⟩
    · refine ⟨_, ⟨_, rfl⟩, hto, ⟨?_, fun e he => ?_, fun e he => ?_, fun e he => ?_⟩, ?_⟩
      · have := hl.elen; simp at this ⊢; omega
      all_goals try
        have he2 : e ∈ E1 ++ f :: E2 := by
          rcases List.mem_append.1 he with a | a
          · exact memD_mid.2 (.inl a)
          · exact memD_mid.2 (.inr (.inr a))
      · exact hl.llen e he2
      · exact hl.gs e he2
      · exact hl.nms e he2
      · have : partXr id (keyD f) f.x = none := by unfold partXr; rw [if_pos ⟨rfl, hm⟩, if_pos hd]
        rw [partXs_mid hkk, this, List.map_append]; rfl
    · refine ⟨_, ⟨_, rfl⟩, hto, ⟨?_, fun e he => ?_, fun e he => ?_, fun e he => ?_⟩, ?_⟩
      · have := hl.elen; simp at this ⊢; omega
      · rcases memD_mid.1 he with a | rfl | a
        · exact hl.llen e (memD_mid.2 (.inl a))
        · exact Nat.le_trans (dropX_len _ _) (hl.llen f (by simp))
        · exact hl.llen e (memD_mid.2 (.inr (.inr a)))
      · rcases memD_mid.1 he with a | rfl | a
        · exact hl.gs e (memD_mid.2 (.inl a))
        · exact (dropX_gs _ _).trans (hl.gs f (by simp))
        · exact hl.gs e (memD_mid.2 (.inr (.inr a)))
      · rcases memD_mid.1 he with a | rfl | a
        · exact hl.nms e (memD_mid.2 (.inl a))
        · show (dropX f.x id).nm.length ≤ 1000; rw [dropX_nm]; exact hl.nms f (by simp)
        · exact hl.nms e (memD_mid.2 (.inr (.inr a)))
      · have : partXr id (keyD f) f.x = some (dropX f.x id) := by unfold partXr; rw [if_pos ⟨rfl, hm⟩, if_neg hd]
        rw [partXs_mid hkk, this, List.map_append]; rfl
/-- Join in one word -/
def JoinDW (base R n : Nat) (C : Nat → Tag) (mr mj mb : Int) (X : List Rx) (id : Int) (nm : List UInt8) (w : World) (e : Ending) (w' : World) : Prop :=
  ∃ E', RdTo base R C mr mj mb E' w w' ∧ RdLg (n + 1) E' ∧ E'.map (·.x) = (joinXs mr mj mb X id nm).1 ∧
    ((joinXs mr mj mb X id nm).2 = none ∧ e = .returned (.tuple #[.pointer none, .int .i64 405]) ∨ ∃ f ∈ E', (joinXs mr mj mb X id nm).2 = some f.x ∧ e = .returned (.tuple #[.pointer (some ⟨f.B, 0, none⟩), .int .i64 0]))
theorem RdLg.more {n m : Nat} {E : List RdE} (h : RdLg n E) (hm : n ≤ m) : RdLg m E := ⟨Nat.le_trans h.elen hm, fun e he => Nat.le_trans (h.llen e he) hm, h.gs, h.nms⟩
theorem JoinD.to {base : Nat} {w w' : World} {e : Ending} {R n : Nat} {v : Value} {C : Nat → Tag} {mr mj mb : Int} {E : List RdE} (h : RdPh base w R v C mr mj mb E) (hl : RdLg n E) {id : Int} {nm : List UInt8} (hnm : nm.length ≤ 1000) (hp : JoinD base R C mr mj mb E id nm w e w') : JoinDW base R n C mr mj mb (E.map (·.x)) id nm w e w' := by
  have hof : (ofXs (E.map (·.x)) id).length = (E.filter (onD id)).length := by rw [ofXs_map, List.length_map]
  rcases hp with ⟨f, hg, hm, rfl, hto⟩ | ⟨hm, hfull, rfl, hto⟩ | ⟨E1, f, E2, q', rfl, hk, hm, hlt, rfl, hto⟩ | ⟨hg, hlt, hq, B, q, rfl, hto⟩
  · have hj : joinXs mr mj mb (E.map (·.x)) id nm = (E.map (·.x), some f.x) := by unfold joinXs; rw [getXs_map, hg]; simp only [Option.map_some]; exact if_pos hm
    exact ⟨E, hto, hl.more (Nat.le_succ n), by rw [hj], .inr ⟨f, (getD_mem hg).1, by rw [hj], rfl⟩⟩
  · have hj : joinXs mr mj mb (E.map (·.x)) id nm = (E.map (·.x), none) := by
      unfold joinXs
      rw [getXs_map]
      cases hg : getD E (foldL nm) with
      | some f =>
        simp only [Option.map_some]
        rw [show onX id f.x = false from hm f hg, hof]
        rcases hfull with a | ⟨a, _⟩
        · rw [if_neg (by simp), if_pos a]
        · rw [hg] at a; cases a
      | none =>
        simp only [Option.map_none]
        rw [hof, List.length_map]
        refine if_pos ?_
        rcases hfull with a | ⟨_, a⟩
        · exact .inl a
        · exact .inr a
    exact ⟨E, hto, hl.more (Nat.le_succ n), by rw [hj], .inl ⟨by rw [hj], rfl⟩⟩
  · have hkk := h.keys
    have hg := getD_of hkk (e := f) (by simp)
    rw [hk] at hg
    have hj : joinXs mr mj mb ((E1 ++ f :: E2).map (·.x)) id nm = (addXs ((E1 ++ f :: E2).map (·.x)) id (foldL nm), some (addX f.x id false)) := by
      unfold joinXs; rw [getXs_map, hg]; simp only [Option.map_some]
      rw [show onX id f.x = false from hm, hof, if_neg (by simp), if_neg (by omega)]
    refine ⟨_, hto, ⟨?_, fun e he => ?_, fun e he => ?_, fun e he => ?_⟩, ?_, .inr ⟨⟨f.B, q', addX f.x id false⟩, by simp, by rw [hj], rfl⟩⟩
    · have := hl.elen; simp at this ⊢; omega
    · rcases memD_mid.1 he with a | rfl | a
      · exact Nat.le_succ_of_le (hl.llen e (memD_mid.2 (.inl a)))
      · exact Nat.le_trans (addX_len _ _ _) (Nat.succ_le_succ (hl.llen f (by simp)))
      · exact Nat.le_succ_of_le (hl.llen e (memD_mid.2 (.inr (.inr a))))
    · rcases memD_mid.1 he with a | rfl | a
      · exact hl.gs e (memD_mid.2 (.inl a))
      · exact addX_gs _ _ (hl.gs f (by simp))
      · exact hl.gs e (memD_mid.2 (.inr (.inr a)))
    · rcases memD_mid.1 he with a | rfl | a
      · exact hl.nms e (memD_mid.2 (.inl a))
      · show (addX f.x id false).nm.length ≤ 1000; rw [addX_nm]; exact hl.nms f (by simp)
      · exact hl.nms e (memD_mid.2 (.inr (.inr a)))
    · rw [hj, ← hk, addXs_mid hkk, List.map_append, List.map_cons]
  · have hj : joinXs mr mj mb (E.map (·.x)) id nm = (E.map (·.x) ++ [addX (rx0 nm mb) id true], some (addX (rx0 nm mb) id true)) := by
      unfold joinXs; rw [getXs_map, hg]; simp only [Option.map_none]
      rw [hof, List.length_map, if_neg (by omega)]
    refine ⟨_, hto, ⟨?_, fun e he => ?_, fun e he => ?_, fun e he => ?_⟩, by rw [hj, List.map_append]; rfl, .inr ⟨⟨B, q, addX (rx0 nm mb) id true⟩, by simp, by rw [hj], rfl⟩⟩
    · have := hl.elen; simp; omega
    · rcases List.mem_append.1 he with a | a
      · exact Nat.le_succ_of_le (hl.llen e a)
      · obtain rfl := List.mem_singleton.1 a
        exact Nat.le_trans (addX_len _ _ _) (by show 0 + 1 ≤ n + 1; omega)
    · rcases List.mem_append.1 he with a | a
      · exact hl.gs e a
      · obtain rfl := List.mem_singleton.1 a
        exact addX_gs _ _ rfl
    · rcases List.mem_append.1 he with a | a
      · exact hl.nms e a
      · obtain rfl := List.mem_singleton.1 a
        show (addX (rx0 nm mb) id true).nm.length ≤ 1000
        rw [addX_nm]; exact hnm
/-- both say the same of a room -/
def R1 (r : Rm) (x : Rx) : Prop := r.nm = x.nm ∧ r.mem.Perm x.L ∧ UpM r.mem
def RelL : List Rm → List Rx → Prop
  | [], [] => True
  | r :: A, x :: X => R1 r x ∧ RelL A X
  | _, _ => False
theorem R1.has {r : Rm} {x : Rx} (h : R1 r x) (id : Int) : hasM r.mem id = onX id x := by
  rw [hasM_perm h.2.1 id]
  unfold onX
  cases hb : hasM x.L id with
  | false => have := atM_no.2 hb; rw [decide_eq_false (by omega)]
  | true =>
    have : ¬ atM x.L id < 0 := fun e => by rw [atM_no.1 e] at hb; cases hb
    rw [decide_eq_true (by omega)]
theorem R1.add {r : Rm} {x : Rx} (h : R1 r x) (id : Int) (op : Bool) : R1 (addR r id op) (addX x id op) := by
  have hh := h.has id
  refine ⟨by rw [addR_nm, addX_nm]; exact h.1, ?_, ?_⟩
  · unfold addR addX
    cases hb : hasM r.mem id with
    | true =>
      rw [hb] at hh
      rw [if_pos rfl, if_pos (of_decide_eq_true hh.symm)]; exact h.2.1
    | false =>
      rw [hb] at hh
      rw [if_neg (by simp), if_neg (of_decide_eq_false hh.symm)]
      exact ins_rel h.2.1 _
  · unfold addR
    cases hb : hasM r.mem id with
    | true => rw [if_pos rfl]; exact h.2.2
    | false => rw [if_neg (by simp)]; exact insM_up h.2.2 hb
theorem R1.drop {r : Rm} {x : Rx} (h : R1 r x) {id : Int} (hm : hasM r.mem id = true) : R1 (dropR r id) (dropX x id) := by
  have hh := h.has id
  rw [hm] at hh
  have h0 : (0 : Int) ≤ atM x.L id := of_decide_eq_true hh.symm
  refine ⟨by rw [dropX_nm]; exact h.1, ?_, delM_up h.2.2 _⟩
  unfold dropX
  rw [if_pos h0]
  exact del_rel h.2.2 h.2.1 (by omega)
theorem RelL.len : ∀ {A : List Rm} {X : List Rx}, RelL A X → A.length = X.length
  | [], [], _ => rfl
  | _ :: _, _ :: _, h => by rw [List.length_cons, List.length_cons, h.2.len]
theorem RelL.ofLen : ∀ {A : List Rm} {X : List Rx}, RelL A X → ∀ id, (ofA A id).length = (ofXs X id).length
  | [], [], _, _ => rfl
  | r :: A, x :: X, h, id => by
    have h1 := h.1.has id
    have h2 := h.2.ofLen id
    unfold ofA ofXs at h2 ⊢
    rw [List.filter_cons, List.filter_cons, h1]
    split <;> simp [h2]
theorem RelL.get : ∀ {A : List Rm} {X : List Rx}, RelL A X → ∀ k, (getA A k = none ∧ getXs X k = none) ∨ ∃ r x, getA A k = some r ∧ getXs X k = some x ∧ R1 r x
  | [], [], _, _ => .inl ⟨rfl, rfl⟩
  | r :: A, x :: X, h, k => by
    have h2 := h.2.get k
    unfold getA getXs at h2 ⊢
    by_cases e : foldL r.nm = k
    · rw [List.find?_cons_of_pos (by simpa using e), List.find?_cons_of_pos (by rw [← h.1.1]; simpa using e)]
      exact .inr ⟨r, x, rfl, rfl, h.1⟩
    · rw [List.find?_cons_of_neg (by simpa using e), List.find?_cons_of_neg (by rw [← h.1.1]; simpa using e)]
      exact h2
theorem RelL.addS : ∀ {A : List Rm} {X : List Rx}, RelL A X → ∀ id k, RelL (addA A id k) (addXs X id k)
  | [], [], _, _, _ => trivial
  | r :: A, x :: X, h, id, k => by
    refine ⟨?_, h.2.addS id k⟩
    show R1 (if foldL r.nm = k then addR r id false else r) (if foldL x.nm = k then addX x id false else x)
    rw [h.1.1]
    split
    · exact h.1.add id false
    · exact h.1
theorem RelL.snoc : ∀ {A : List Rm} {X : List Rx}, RelL A X → ∀ {r x}, R1 r x → RelL (A ++ [r]) (X ++ [x])
  | [], [], _, _, _, h1 => ⟨h1, trivial⟩
  | _ :: _, _ :: _, h, _, _, h1 => ⟨h.1, h.2.snoc h1⟩
theorem RelL.part : ∀ {A : List Rm} {X : List Rx}, RelL A X → ∀ id k, RelL (partA A id k) (partXs X id k)
  | [], [], _, _, _ => trivial
  | r :: A, x :: X, h, id, k => by
    have ih := h.2.part id k
    have h1 := h.1.has id
    unfold partA partXs at ih ⊢
    by_cases c : foldL r.nm = k ∧ hasM r.mem id = true
    · have c2 : foldL x.nm = k ∧ onX id x = true := ⟨by rw [← h.1.1]; exact c.1, by rw [← h1]; exact c.2⟩
      have hd := h.1.drop c.2
      have hiff : delMb r.mem id = [] ↔ (dropX x id).L = [] := by
        constructor
        · intro e; have := hd.2.1; rw [show (dropR r id).mem = [] from e] at this; exact this.symm.eq_nil
        · intro e; have := hd.2.1; rw [e] at this; exact this.eq_nil
      by_cases e : delMb r.mem id = []
      · rw [List.filterMap_cons_none (by unfold partR; rw [if_pos c, if_pos e]), List.filterMap_cons_none (by unfold partXr; rw [if_pos c2, if_pos (hiff.1 e)])]
        exact ih
      · rw [List.filterMap_cons_some (by unfold partR; rw [if_pos c, if_neg e]), List.filterMap_cons_some (by unfold partXr; rw [if_pos c2, if_neg fun e2 => e (hiff.2 e2)])]
        exact ⟨hd, ih⟩
    · have c2 : ¬ (foldL x.nm = k ∧ onX id x = true) := fun c2 => c ⟨by rw [h.1.1]; exact c2.1, by rw [h1]; exact c2.2⟩
      rw [List.filterMap_cons_some (by unfold partR; rw [if_neg c]), List.filterMap_cons_some (by unfold partXr; rw [if_neg c2])]
      exact ⟨h.1, ih⟩
theorem R1.new (nm : List UInt8) (mb : Int) : R1 (rm0 nm mb) (rx0 nm mb) := ⟨rfl, List.Perm.refl _, List.Pairwise.nil⟩
theorem RelL.join {A : List Rm} {X : List Rx} (h : RelL A X) (mr mj mb : Int) (id : Int) (nm : List UInt8) : RelL (joinA mr mj mb A id nm).1 (joinXs mr mj mb X id nm).1 ∧ ((joinA mr mj mb A id nm).2 = none ∧ (joinXs mr mj mb X id nm).2 = none ∨ ∃ r x, (joinA mr mj mb A id nm).2 = some r ∧ (joinXs mr mj mb X id nm).2 = some x ∧ R1 r x) := by
  unfold joinA joinXs
  rw [← h.ofLen id, ← h.len]
  rcases h.get (foldL nm) with ⟨h1, h2⟩ | ⟨r, x, h1, h2, h3⟩
  · rw [h1, h2]
    simp only
    split
    · exact ⟨h, .inl ⟨rfl, rfl⟩⟩
    · exact ⟨h.snoc ((R1.new nm mb).add id true), .inr ⟨_, _, rfl, rfl, (R1.new nm mb).add id true⟩⟩
  · rw [h1, h2]
    simp only
    rw [h3.has id]
    split
    · exact ⟨h, .inr ⟨r, x, rfl, rfl, h3⟩⟩
    · split
      · exact ⟨h, .inl ⟨rfl, rfl⟩⟩
      · exact ⟨h.addS id _, .inr ⟨_, _, rfl, rfl, h3.add id false⟩⟩
end Go.Proofs.YtlkeomcillencaaGreat
end
section
/- Layer 20: the document's Common. -/
namespace Go.Proofs.YtlkeomcillencaaGreat
open Go Go.RowKit Go.Maps Go.Sort Go.Shelf Go.Lib

set_option maxRecDepth 100000 in
set_option maxHeartbeats 8000000 in
theorem refCommon_any {base : Nat} {w : World} {R : Nat} {v : Value} {C : Nat → Tag} {mr mj mb : Int} {E : List RdE} (h : RdPh base w R v C mr mj mb E) {n : Nat} (hl : RdLg n E) (hn : n ≤ 1000) (a b : Int) :
    Calls Tryz.prog 31 #[.pointer (some ⟨R, 0, none⟩), .int .i64 a, .int .i64 b] w fun e w' => e = .returned (.bool (E.any fun e => onD a e && onD b e)) ∧ w' = w := by
  obtain ⟨A, c, hv⟩ : ∃ A c, v = .slice A E.length c := by
    obtain ⟨A, c, hv⟩ := row_slice h.row
    rw [List.length_map] at hv
    exact ⟨A, c, hv⟩
  obtain ⟨P, hP⟩ : ∃ P, (E.any fun e => onD a e && onD b e) = P := ⟨_, rfl⟩
  rw [hP]
  have hlen : E.length ≤ 1000 := Nat.le_trans hl.elen hn
  have s0 : w.cell? ⟨R, 3, none⟩ = some (.slice A E.length c) := by rw [← hv]; exact blk_cell h.self 3
  have H := Lib.hid (And.intro h (And.intro hl (And.intro hv (And.intro hP hn))))
  clear h hl hv hP hn
  go_enter Tryz.func31, Tryz.ntmps31
  go_wp2_with fail
  go_loopw [7] (fun t wr => ∃ i : Nat, t = .int .i64 i ∧ i ≤ E.length ∧ Hid (∀ j (hj : j < E.length), j < i → (onD a E[j] && onD b E[j]) = false) ∧ wr = w) (fun t _ => E.length - (RowKit.intOf t).toNat)
  case atStart => exact ⟨0, rfl, Nat.zero_le _, Lib.hid fun j _ hj => absurd hj (Nat.not_lt_zero _), rfl⟩
  case round =>
    obtain ⟨i, rfl, hi, HB, rfl⟩ := hrel
    by_cases hlt : i < E.length
    · obtain ⟨h, hl, hv, hP, hn⟩ := H.out
      obtain ⟨g, rfl, hf⟩ := rd_facts h hv hlt
      obtain ⟨x, hx⟩ : ∃ x, E[i] = x := ⟨_, rfl⟩
      rw [hx] at hf
      have hxE : x ∈ E := by rw [← hx]; exact List.getElem_mem _
      obtain ⟨xB, hxB⟩ : ∃ xB, x.B = xB := ⟨_, rfl⟩
      obtain ⟨_, q2, _⟩ := hf wr (Fr.refl _ _)
      rw [hxB] at q2
      have HAa := Lib.hid (refAt_any (h.each x hxE) a (by have := hl.llen x hxE; omega))
      have HAb := Lib.hid (refAt_any (h.each x hxE) b (by have := hl.llen x hxE; omega))
      obtain ⟨am, ham⟩ : ∃ am, atM x.x.L a = am := ⟨_, rfl⟩
      obtain ⟨bm, hbm⟩ : ∃ bm, atM x.x.L b = bm := ⟨_, rfl⟩
      rw [ham, hxB] at HAa
      rw [hbm, hxB] at HAb
      have HX := Lib.hid (And.intro hx (And.intro ham hbm))
      have n1 : (i : Int) < (E.length : Int) := by omega
      have n2 : decide ((i : Int) < (E.length : Int)) = true := by simp; omega
      have q0 : (0 : Int) ≤ (i : Int) := by omega
      clear h hl hv hP hn hf hx hxE hxB ham hbm
      by_cases ha : (0 : Int) ≤ am
      · have ha1 : am ≥ 0 := ha
        have ha2 : decide (am ≥ 0) = true := by simp; omega
        by_cases hb : (0 : Int) ≤ bm
        · have hb1 : bm ≥ 0 := hb
          have hb2 : decide (bm ≥ 0) = true := by simp; omega
          go_wp2_with fail
          refine HAa.out.mono ?_
          rintro e9 V9 ⟨rfl, rfl⟩
          go_wp2_with fail
          refine HAb.out.mono ?_
          rintro e9 V9 ⟨rfl, rfl⟩
          go_wp2_with fail
          go_ret
          refine ⟨?_, rfl⟩
          obtain ⟨h, hl, hv, hP, hn⟩ := H.out
          obtain ⟨hx, ham, hbm⟩ := HX.out
          have hE : (E.any fun e => onD a e && onD b e) = true := by
            refine List.any_eq_true.2 ⟨x, by rw [← hx]; exact List.getElem_mem _, ?_⟩
            unfold onD
            rw [ham, hbm, decide_eq_true ha, decide_eq_true hb]; rfl
          rw [← hP, hE]; rfl
        · have hb1 : ¬ bm ≥ 0 := hb
          have hb2 : decide (bm ≥ 0) = false := by simp; omega
          have hN : Hid (∀ j (hj : j < E.length), j < i + 1 → (onD a E[j] && onD b E[j]) = false) := Lib.hid fun j hj hj2 => by
            obtain ⟨hx, ham, hbm⟩ := HX.out
            by_cases e9 : j = i
            · subst e9; rw [hx]; unfold onD; rw [ham, hbm, decide_eq_false hb, Bool.and_false]
            · exact HB.out j hj (by omega)
          go_wp2_with fail
          refine HAa.out.mono ?_
          rintro e9 V9 ⟨rfl, rfl⟩
          go_wp2_with fail
          refine HAb.out.mono ?_
          rintro e9 V9 ⟨rfl, rfl⟩
          go_wp2_with fail
          go_roundw
          case rel => exact ⟨i + 1, by go_num, by omega, hN, by first | rfl | trivial⟩
          case measure => simp [RowKit.intOf]; omega
      · have ha1 : ¬ am ≥ 0 := ha
        have ha2 : decide (am ≥ 0) = false := by simp; omega
        have hN : Hid (∀ j (hj : j < E.length), j < i + 1 → (onD a E[j] && onD b E[j]) = false) := Lib.hid fun j hj hj2 => by
          obtain ⟨hx, ham, hbm⟩ := HX.out
          by_cases e9 : j = i
          · subst e9; rw [hx]; unfold onD; rw [ham, decide_eq_false ha, Bool.false_and]
          · exact HB.out j hj (by omega)
        go_wp2_with fail
        refine HAa.out.mono ?_
        rintro e9 V9 ⟨rfl, rfl⟩
        go_wp2_with fail
        go_roundw
        case rel => exact ⟨i + 1, by go_num, by omega, hN, by first | rfl | trivial⟩
        case measure => simp [RowKit.intOf]; omega
    · have n1 : ¬ (i : Int) < (E.length : Int) := by omega
      have n2 : decide ((i : Int) < (E.length : Int)) = false := by simp; omega
      go_wp2_with fail
      go_ret
      refine ⟨?_, rfl⟩
      obtain ⟨h, hl, hv, hP, hn⟩ := H.out
      have hE : (E.any fun e => onD a e && onD b e) = false := by
        refine List.any_eq_false.2 fun x hx => ?_
        obtain ⟨j, hj, rfl⟩ := List.getElem_of_mem hx
        rw [HB.out j hj (by omega)]; simp
      rw [← hP, hE]; rfl
end Go.Proofs.YtlkeomcillencaaGreat
end
section
/- Layer 10's answers Add and Has, for a seat of layer 20. -/
namespace Go.Proofs.YtlkeomcillencaaGreat
open Go Go.RowKit Go.Lib Go.Sort Go.Shelf

theorem reads_own {base : Nat} {w : World} {A : Option Addr} {n c : Nat} {xs : List Int} (h : OwnI base w (.slice A n c) xs) : ReadsI w A xs := fun h0 => by
  rcases h.2 with ⟨h1, h2⟩ | ⟨g, cap, cur, h1, h3, h4, h5, _, h6, h7⟩
  · omega
  · injection h1 with q1 q2 q3
    subst q1
    rw [Nat.mul_one] at h7
    refine ⟨g, 0, rfl, blk_lt h4, fun j hj => ?_⟩
    rw [Nat.zero_add, blk_cell h4 j, own_get (base := 0) (w := w) (cap := 0) h4 h7 j hj]

/-- what Add has built behind k of the numbers -/
def addZ (xs : List Int) (x : Int) (k : Nat) : List Int := if k ≤ xs.countP (· < x) then xs.take k else xs.take (xs.countP (· < x)) ++ x :: (xs.take k).drop (xs.countP (· < x))
theorem addZ_len (xs : List Int) (x : Int) (k : Nat) : (addZ xs x k).length ≤ xs.length + 1 := by
  unfold addZ
  split
  · rw [List.length_take]; omega
  · rw [List.length_append, List.length_cons, List.length_drop, List.length_take, List.length_take]; omega
theorem addZ_low {xs : List Int} {x : Int} {k : Nat} (h : k < xs.countP (· < x)) (hk : k < xs.length) : addZ xs x (k + 1) = addZ xs x k ++ [xs[k]] := by
  unfold addZ
  rw [if_pos (by omega), if_pos (by omega), List.take_succ_eq_append_getElem hk]
theorem addZ_at {xs : List Int} {x : Int} {k : Nat} (h : k = xs.countP (· < x)) (hk : k < xs.length) : addZ xs x (k + 1) = (addZ xs x k ++ [x]) ++ [xs[k]] := by
  unfold addZ
  rw [if_neg (by omega), if_pos (by omega), ← h, List.take_succ_eq_append_getElem hk, List.drop_append_of_le_length (by rw [List.length_take]; omega), List.drop_of_length_le (by rw [List.length_take]; omega)]
  simp
theorem addZ_high {xs : List Int} {x : Int} {k : Nat} (h : xs.countP (· < x) < k) (hk : k < xs.length) : addZ xs x (k + 1) = addZ xs x k ++ [xs[k]] := by
  unfold addZ
  rw [if_neg (by omega), if_neg (by omega), List.take_succ_eq_append_getElem hk, List.drop_append_of_le_length (by rw [List.length_take]; omega), List.append_assoc, List.cons_append]
theorem addZ_end (xs : List Int) (x : Int) (h : xs.contains x = false) : insI xs x = if xs.countP (· < x) < xs.length then addZ xs x xs.length else addZ xs x xs.length ++ [x] := by
  have hc := countP_le xs x
  unfold insI addZ
  rw [h, if_neg Bool.false_ne_true]
  by_cases e : xs.countP (· < x) < xs.length
  · rw [if_pos e, if_neg (by omega), List.take_length]
  · have e2 : xs.countP (· < x) = xs.length := by omega
    rw [if_neg e, if_pos (by omega), e2, List.take_length, List.drop_length]
theorem low_lt {xs : List Int} (h : xs.Pairwise (· < ·)) {x : Int} {k : Nat} (hk : k < xs.countP (· < x)) (hl : k < xs.length) : xs[k] < x :=
  (take_lt h x).1 _ (by rw [List.mem_take_iff_getElem]; exact ⟨k, by omega, rfl⟩)
theorem high_ge {xs : List Int} (h : xs.Pairwise (· < ·)) {x : Int} {k : Nat} (hk : xs.countP (· < x) ≤ k) (hl : k < xs.length) : x ≤ xs[k] :=
  (take_lt h x).2 _ (by rw [List.mem_drop_iff_getElem]; exact ⟨k - xs.countP (· < x), by omega, by simp [show xs.countP (· < x) + (k - xs.countP (· < x)) = k by omega]⟩)

theorem own_snoc {base : Nat} {w : World} {v : Value} {zs : List Int} {y : Int} (h : w.ownsRow base 3 1 v (zs.length + 1) (zs.map (Value.int .i64) ++ #[Value.int .i64 y].toList)) : OwnI base w v (zs ++ [y]) := by
  unfold OwnI; rw [List.length_append, List.map_append]; exact h
theorem tie_own {w W : World} {v v' : Value} {zs : List Int} (h : OwnI w.heap.size W v' zs) : Tie w v v' := fun k hk hl => by have := (h.lt k hk).1; omega
/-- a row handed back: the one that was given, or a new one -/
def RowNT (base : Nat) (zs : List Int) (v : Value) (w : World) (e : Ending) (w' : World) : Prop := (∃ v', e = .returned v' ∧ OwnI base w' v' zs ∧ Tie w v v') ∧ Below w.heap.size w w'
set_option maxRecDepth 100000 in
set_option maxHeartbeats 4000000 in
theorem add10 {base : Nat} {w : World} {v : Value} {xs : List Int} (hv : OwnI base w v xs) (hup : xs.Pairwise (· < ·)) (hl : xs.length ≤ 900000) (hbw : base ≤ w.heap.size) (x : Int) :
    Calls Tryz.prog 64 #[v, .int .i64 x] w (RowNT base (insI xs x) v w) := by
  obtain ⟨i0, hi, hz0, hz1, hz2⟩ := info_parts Tryz.infoI
  obtain ⟨A, c, rfl⟩ := row_slice hv
  have HA := Lib.hid (reads_own hv)
  have HV := Lib.hid hv
  have HU := Lib.hid hup
  have hh := has10 A xs c x (by omega) HA.out
  obtain ⟨b, hb⟩ : ∃ b, xs.contains x = b := ⟨_, rfl⟩
  rw [hb] at hh
  have HH := Lib.hid hh
  have HB := Lib.hid hb
  clear hv hup hh hb
  go_enter Tryz.func64, Tryz.ntmps64
  go_wp2_with fail
  refine HH.out.mono ?_
  rintro e w1 ⟨rfl, rfl⟩
  cases b with
  | true =>
    go_wp2_with fail
    go_ret
    have hx : insI xs x = xs := by unfold insI; rw [if_pos HB.out]
    rw [hx]
    exact ⟨⟨_, rfl, HV.out, tie_same rfl⟩, Below.refl _ _⟩
  | false =>
    go_wp2_with fail
    have h00 : OwnI w1.heap.size w1 (.slice none 0 0) (addZ xs x 0) := by unfold addZ; rw [if_pos (Nat.zero_le _)]; exact own_nil _ _
    obtain ⟨p, hp⟩ : ∃ p, xs.countP (fun y => decide (y < x)) = p := ⟨_, rfl⟩
    have HP := Lib.hid hp
    have hpl : p ≤ xs.length := by rw [← hp]; exact countP_le xs x
    clear hp
    go_loopw [5, 6, 7] (fun v d i wr => ∃ k : Nat, i = .int .i64 k ∧ k ≤ xs.length ∧ d = .bool (decide (p < k)) ∧ Hid (OwnI w1.heap.size wr v (addZ xs x k) ∧ Below w1.heap.size w1 wr)) (fun _ _ i _ => xs.length - (Go.RowKit.intOf i).toNat)
    case atStart => exact ⟨0, rfl, Nat.zero_le _, by simp, h00, Below.refl _ _⟩
    case round =>
      clear h00
      obtain ⟨k, rfl, hk, rfl, HQ⟩ := hrel
      obtain ⟨q1, q2⟩ := HQ.out
      have hz := q2.size
      have hzl := addZ_len xs x k
      obtain ⟨zs, hzs⟩ : ∃ zs, addZ xs x k = zs := ⟨_, rfl⟩
      rw [hzs] at q1 hzl
      have hor : wr.ownsRow w1.heap.size 3 1 u5 zs.length (zs.map (Value.int .i64)) := q1
      have HO := Lib.hid hor
      have HQ2 := Lib.hid (And.intro q1 (And.intro q2 hzs))
      by_cases hlt : k < xs.length
      · obtain ⟨g, o, rfl, hg, ha⟩ := HA.out (by omega)
        have a1 : wr.cell? ⟨g, o + k, none⟩ = some (.int .i64 xs[k]) := (World.cell?_of_block (w := w1) (w' := wr) (a := ⟨g, o + k, none⟩) (q2.block g hg)).trans (ha k hlt)
        have hne : xs[k] ≠ x := fun e => by
          have := HB.out
          rw [← e] at this
          simp at this
        have hlow : k < p → xs[k] < x := fun h => low_lt HU.out (by rw [HP.out]; exact h) hlt
        have hhigh : p ≤ k → x ≤ xs[k] := fun h => high_ge HU.out (by rw [HP.out]; exact h) hlt
        have e1 : k < p → addZ xs x (k + 1) = addZ xs x k ++ [xs[k]] := fun h => addZ_low (by rw [HP.out]; exact h) hlt
        have e2 : k = p → addZ xs x (k + 1) = (addZ xs x k ++ [x]) ++ [xs[k]] := fun h => addZ_at (by rw [HP.out]; exact h) hlt
        have e3 : p < k → addZ xs x (k + 1) = addZ xs x k ++ [xs[k]] := fun h => addZ_high (by rw [HP.out]; exact h) hlt
        obtain ⟨y, hy⟩ : ∃ y, xs[k] = y := ⟨_, rfl⟩
        rw [hy] at a1 hne hlow hhigh e1 e2 e3
        rw [hzs] at e1 e2 e3
        have p1 : (k : Int) < (xs.length : Int) := by omega
        have HE := Lib.hid (And.intro e1 (And.intro e2 e3))
        clear ha hy e1 e2 e3 q1 q2 hzs hor
        rcases Nat.lt_trichotomy k p with h | h | h
        · have hd : decide (p < k) = false := by simp; omega
          have hx : ¬ (x < y) := by have := hlow h; omega
          rw [hd]
          clear hlow hhigh hd
          go_wp2_with (at_builtin; refine Hid.out ?_)
          refine Lib.hid ?_
          refine wpList_app_fr rfl _ _ 56 rfl w1.heap.size 3 i0 _ 1 8 Tryz.underlying56 hi hz0 hz1 hz2 rfl (by decide) u5 (zs).length ((zs).map (Value.int .i64)) rfl HO.out #[.int .i64 y] _ rfl rfl rfl (by intro u hu; simp at hu; subst hu; rfl) (by omega) (by decide) (by omega) ?_
          intro v1 W2 o1 f1
          obtain ⟨q1, q2, hzs⟩ := HQ2.out
          have HN : Hid (OwnI w1.heap.size W2 v1 (addZ xs x (k + 1)) ∧ Below w1.heap.size w1 W2) := ⟨by rw [HE.out.1 h]; exact own_snoc o1, q2.trans (f1.below q2.size fun j _ ej => (q1.lt j ej).1)⟩
          clear q1 q2 hzs o1 f1
          go_wp2_with fail
          go_roundw
          case rel => exact ⟨k + 1, by go_num, by omega, by simp; omega, HN⟩
          case measure => simp [Go.RowKit.intOf]; omega
        · have hd : decide (p < k) = false := by simp; omega
          have hx : x < y := by have := hhigh (by omega); omega
          have h9 : p ≤ k := by omega
          have h8 : k ≤ p := by omega
          rw [hd]
          have E2 := Lib.hid (HE.out.2.1 h)
          clear hlow hhigh hd h
          go_wp2_with (at_builtin; refine Hid.out ?_)
          refine Lib.hid ?_
          refine wpList_app_fr rfl _ _ 56 rfl w1.heap.size 3 i0 _ 1 8 Tryz.underlying56 hi hz0 hz1 hz2 rfl (by decide) u5 (zs).length ((zs).map (Value.int .i64)) rfl HO.out #[.int .i64 x] _ rfl rfl rfl (by intro u hu; simp at hu; subst hu; rfl) (by omega) (by decide) (by omega) ?_
          intro v1 W2 o1 f1
          have o2 := own_snoc o1
          have zl2 : (zs ++ [x]).length ≤ 1000000 := by rw [List.length_append]; simp; omega
          have zw2 := f1.size
          have a2 : W2.cell? ⟨g, o + k, none⟩ = some (.int .i64 y) := (f1.cell (p := ⟨g, o + k, none⟩) (by have := hg; simp; omega) (fun e => by have := (HQ2.out.1.lt g e).1; omega)).trans a1
          obtain ⟨z2, hz2e⟩ : ∃ z2, zs ++ [x] = z2 := ⟨_, rfl⟩
          rw [hz2e] at o2 zl2
          have hor2 : W2.ownsRow w1.heap.size 3 1 v1 z2.length (z2.map (Value.int .i64)) := o2
          have HO2 := Lib.hid hor2
          have HF := Lib.hid (And.intro o2 (And.intro f1 hz2e))
          clear o1 o2 f1 hor2 hz2e
          go_wp2_with (at_builtin; refine Hid.out ?_)
          refine Lib.hid ?_
          refine wpList_app_fr rfl _ _ 56 rfl w1.heap.size 3 i0 _ 1 8 Tryz.underlying56 hi hz0 hz1 hz2 rfl (by decide) v1 (z2).length ((z2).map (Value.int .i64)) rfl HO2.out #[.int .i64 y] _ rfl rfl rfl (by intro u hu; simp at hu; subst hu; rfl) (by omega) (by decide) (by omega) ?_
          intro v2 W3 o3 f3
          obtain ⟨q1, q2, hzs⟩ := HQ2.out
          obtain ⟨o2, f1, hz2e⟩ := HF.out
          have q3 : Below w1.heap.size w1 W2 := q2.trans (f1.below q2.size fun j _ ej => (q1.lt j ej).1)
          have HN : Hid (OwnI w1.heap.size W3 v2 (addZ xs x (k + 1)) ∧ Below w1.heap.size w1 W3) := ⟨by rw [E2.out, hz2e]; exact own_snoc o3, q3.trans (f3.below q3.size fun j _ ej => (o2.lt j ej).1)⟩
          clear q1 q2 hzs o2 f1 hz2e q3 o3 f3
          go_wp2_with fail
          go_roundw
          case rel => exact ⟨k + 1, by go_num, by omega, by simp; omega, HN⟩
          case measure => simp [Go.RowKit.intOf]; omega
        · have hd : decide (p < k) = true := by simp; omega
          rw [hd]
          clear hlow hhigh hd
          go_wp2_with (at_builtin; refine Hid.out ?_)
          refine Lib.hid ?_
          refine wpList_app_fr rfl _ _ 56 rfl w1.heap.size 3 i0 _ 1 8 Tryz.underlying56 hi hz0 hz1 hz2 rfl (by decide) u5 (zs).length ((zs).map (Value.int .i64)) rfl HO.out #[.int .i64 y] _ rfl rfl rfl (by intro u hu; simp at hu; subst hu; rfl) (by omega) (by decide) (by omega) ?_
          intro v1 W2 o1 f1
          obtain ⟨q1, q2, hzs⟩ := HQ2.out
          have HN : Hid (OwnI w1.heap.size W2 v1 (addZ xs x (k + 1)) ∧ Below w1.heap.size w1 W2) := ⟨by rw [HE.out.2.2 h]; exact own_snoc o1, q2.trans (f1.below q2.size fun j _ ej => (q1.lt j ej).1)⟩
          clear q1 q2 hzs o1 f1
          go_wp2_with fail
          go_roundw
          case rel => exact ⟨k + 1, by go_num, by omega, by simp; omega, HN⟩
          case measure => simp [Go.RowKit.intOf]; omega
      · obtain rfl : k = xs.length := by omega
        have p1 : ¬ ((xs.length : Int) < (xs.length : Int)) := by omega
        have hend := addZ_end xs x HB.out
        rw [HP.out, hzs] at hend
        clear q1 q2 hzs hor
        by_cases h : p < xs.length
        · have hd : decide (p < xs.length) = true := by simp; omega
          rw [if_pos h] at hend
          rw [hd]
          clear hd
          go_wp2_with fail
          go_ret
          obtain ⟨q1, q2, hzs⟩ := HQ2.out
          first | rw [hend] | skip
          exact ⟨⟨u5, rfl, row_base' q1 hbw, tie_own q1⟩, q2⟩
        · have hd : decide (p < xs.length) = false := by simp; omega
          rw [if_neg h] at hend
          rw [hd]
          clear hd
          go_wp2_with (at_builtin; refine Hid.out ?_)
          refine Lib.hid ?_
          refine wpList_app_fr rfl _ _ 56 rfl w1.heap.size 3 i0 _ 1 8 Tryz.underlying56 hi hz0 hz1 hz2 rfl (by decide) u5 (zs).length ((zs).map (Value.int .i64)) rfl HO.out #[.int .i64 x] _ rfl rfl rfl (by intro u hu; simp at hu; subst hu; rfl) (by omega) (by decide) (by omega) ?_
          intro v1 W2 o1 f1
          have HF := Lib.hid (And.intro (own_snoc o1) f1)
          clear o1 f1
          go_wp2_with fail
          go_ret
          obtain ⟨q1, q2, hzs⟩ := HQ2.out
          obtain ⟨o2, f1⟩ := HF.out
          first | rw [hend] | skip
          exact ⟨⟨v1, rfl, row_base' o2 hbw, tie_own o2⟩, q2.trans (f1.below q2.size fun j _ ej => (q1.lt j ej).1)⟩
end Go.Proofs.YtlkeomcillencaaGreat
end
section
/- Layer 20: the document's Peers. -/
namespace Go.Proofs.YtlkeomcillencaaGreat
open Go Go.RowKit Go.Maps Go.Sort Go.Shelf Go.Lib

/-- y is told of, of this room -/
def peT (id y : Int) (p : Bool) (L : List Mem) : Prop := p = true ∧ y ≠ id ∧ ∃ m ∈ L, m.1 = y
/-- how far Peers has come -/
structure PeR (w : World) (E : List RdE) (id : Int) (i k : Nat) (xs : List Int) (v : Value) (W : World) : Prop where
  fr : Fr (fun _ => False) w W
  own : OwnI w.heap.size W v xs
  up : xs.Pairwise (· < ·)
  len : xs.length ≤ 900 * i + k
  mem : ∀ y, y ∈ xs ↔ (∃ e ∈ E.take i, peT id y (onD id e) e.x.L) ∨ ∃ h : i < E.length, peT id y (onD id E[i]) (E[i].x.L.take k)
theorem PeR.next {w : World} {E : List RdE} {id : Int} {i : Nat} {xs : List Int} {v : Value} {W : World} (hi : i < E.length) (h : PeR w E id i E[i].x.L.length xs v W) (hL : E[i].x.L.length ≤ 900) : PeR w E id (i + 1) 0 xs v W := by
  refine ⟨h.fr, h.own, h.up, by have := h.len; omega, fun y => ?_⟩
  rw [h.mem y, List.take_succ_eq_append_getElem hi]
  constructor
  · rintro (⟨e, he, h1⟩ | ⟨_, h1⟩)
    · exact .inl ⟨e, List.mem_append_left _ he, h1⟩
    · rw [List.take_length] at h1
      exact .inl ⟨_, List.mem_append_right _ (List.mem_singleton.2 rfl), h1⟩
  · rintro (⟨e, he, h1⟩ | ⟨_, h1⟩)
    · rcases List.mem_append.1 he with a | a
      · exact .inl ⟨e, a, h1⟩
      · obtain rfl := List.mem_singleton.1 a
        exact .inr ⟨hi, by rw [List.take_length]; exact h1⟩
    · obtain ⟨_, _, m, hm, _⟩ := h1
      simp at hm
theorem peT_step {id y : Int} {p : Bool} {L : List Mem} {k : Nat} (hk : k < L.length) : peT id y p (L.take (k + 1)) ↔ peT id y p (L.take k) ∨ (p = true ∧ y ≠ id ∧ L[k].1 = y) := by
  rw [List.take_succ_eq_append_getElem hk]
  unfold peT
  constructor
  · rintro ⟨h1, h2, m, hm, h3⟩
    rcases List.mem_append.1 hm with a | a
    · exact .inl ⟨h1, h2, m, a, h3⟩
    · obtain rfl := List.mem_singleton.1 a
      exact .inr ⟨h1, h2, h3⟩
  · rintro (⟨h1, h2, m, hm, h3⟩ | ⟨h1, h2, h3⟩)
    · exact ⟨h1, h2, m, List.mem_append_left _ hm, h3⟩
    · exact ⟨h1, h2, _, List.mem_append_right _ (List.mem_singleton.2 rfl), h3⟩
theorem PeR.skip {w : World} {E : List RdE} {id : Int} {i k : Nat} {xs : List Int} {v : Value} {W : World} (h : PeR w E id i k xs v W) (hi : i < E.length) (hk : k < E[i].x.L.length) (hn : E[i].x.L[k].1 = id ∨ onD id E[i] = false) : PeR w E id i (k + 1) xs v W := by
  refine ⟨h.fr, h.own, h.up, by have := h.len; omega, fun y => ?_⟩
  rw [h.mem y]
  constructor
  · rintro (h1 | ⟨h0, h1⟩)
    · exact .inl h1
    · exact .inr ⟨h0, (peT_step hk).2 (.inl h1)⟩
  · rintro (h1 | ⟨h0, h1⟩)
    · exact .inl h1
    · rcases (peT_step hk).1 h1 with a | ⟨a, b, c⟩
      · exact .inr ⟨h0, a⟩
      · rcases hn with d | d
        · exact absurd (c.symm.trans d) b
        · rw [d] at a; cases a
theorem PeR.add {w : World} {E : List RdE} {id : Int} {i k : Nat} {xs : List Int} {v v' : Value} {W W' : World} (h : PeR w E id i k xs v W) (hi : i < E.length) (hk : k < E[i].x.L.length) (h1 : E[i].x.L[k].1 ≠ id) (h2 : onD id E[i] = true) (ho : OwnI w.heap.size W' v' (insI xs E[i].x.L[k].1)) (hb : RowKit.Below W.heap.size W W') : PeR w E id i (k + 1) (insI xs E[i].x.L[k].1) v' W' := by
  refine ⟨h.fr.trans (Fr.of_below hb), ho, insI_up h.up _, ?_, fun y => ?_⟩
  · rw [insI_len]
    have := h.len
    split <;> omega
  · rw [insI_mem, h.mem y]
    constructor
    · rintro (h3 | h3 | ⟨h0, h3⟩)
      · exact .inr ⟨hi, (peT_step hk).2 (.inr ⟨h2, by rw [h3]; exact h1, h3.symm⟩)⟩
      · exact .inl h3
      · exact .inr ⟨h0, (peT_step hk).2 (.inl h3)⟩
    · rintro (h3 | ⟨h0, h3⟩)
      · exact .inr (.inl h3)
      · rcases (peT_step hk).1 h3 with a | ⟨a, b, c⟩
        · exact .inr (.inr ⟨h0, a⟩)
        · exact .inl c.symm
/-- what the document's Peers gives -/
def RefPeersP (E : List RdE) (id : Int) (w : World) (e : Ending) (w' : World) : Prop := (∃ (v : Value) (xs : List Int), e = .returned v ∧ OwnI w.heap.size w' v xs ∧ xs.Pairwise (· < ·) ∧ xs.length ≤ 900000 ∧ ∀ y, y ∈ xs ↔ ∃ e ∈ E, peT id y (onD id e) e.x.L) ∧ RowKit.Below w.heap.size w w'
set_option maxRecDepth 100000 in
set_option maxHeartbeats 16000000 in
theorem refPeers_any {base : Nat} {w : World} {R : Nat} {v : Value} {C : Nat → Tag} {mr mj mb : Int} {E : List RdE} (h : RdPh base w R v C mr mj mb E) {n : Nat} (hl : RdLg n E) (hn : n ≤ 900) (id : Int) :
    Calls Tryz.prog 29 #[.pointer (some ⟨R, 0, none⟩), .int .i64 id] w (RefPeersP E id w) := by
  obtain ⟨A, c, hv⟩ : ∃ A c, v = .slice A E.length c := by
    obtain ⟨A, c, hv⟩ := row_slice h.row
    rw [List.length_map] at hv
    exact ⟨A, c, hv⟩
  have hlen : E.length ≤ 900 := Nat.le_trans hl.elen hn
  have HS := Lib.hid (fun W (hW : Fr (fun _ => False) w W) => (show W.cell? ⟨R, 3, none⟩ = some (.slice A E.length c) from by rw [← hv]; exact blk_cell (hW.blk h.self fun e => e) 3))
  have H0 : Hid (PeR w E id 0 0 [] (.slice none 0 0) w) := Lib.hid ⟨Fr.refl _ _, own_nil _ _, List.Pairwise.nil, Nat.zero_le _, fun y => ⟨fun h => (by cases h), fun h => by
    rcases h with ⟨e, he, _⟩ | ⟨_, _, _, m, hm, _⟩
    · simp at he
    · simp at hm⟩⟩
  have H := Lib.hid (And.intro h (And.intro hl (And.intro hv hn)))
  clear h hl hv hn
  go_enter Tryz.func29, Tryz.ntmps29
  go_wp2_with fail
  go_loopw [5, 6, 7, 8] (fun o t _ _ wr => ∃ (i : Nat) (xs : List Int) (A1 : Option Addr) (c1 : Nat), t = .int .i64 i ∧ o = .slice A1 xs.length c1 ∧ i ≤ E.length ∧ Hid (PeR w E id i 0 xs (.slice A1 xs.length c1) wr)) (fun _ t _ _ _ => E.length - (RowKit.intOf t).toNat)
  case atStart => exact ⟨0, [], none, 0, rfl, rfl, Nat.zero_le _, H0⟩
  case round =>
    obtain ⟨i, xs, A1, c1, rfl, rfl, hi, HG⟩ := hrel
    clear H0
    have s0 := HS.out wr HG.out.fr
    by_cases hlt : i < E.length
    · obtain ⟨h, hl, hv, hn⟩ := H.out
      obtain ⟨g, rfl, hf⟩ := rd_facts h hv hlt
      obtain ⟨L, hL⟩ : ∃ L, E[i].x.L = L := ⟨_, rfl⟩
      obtain ⟨xB, hxB⟩ : ∃ xB, E[i].B = xB := ⟨_, rfl⟩
      have hxE := List.getElem_mem hlt
      have hLl : L.length ≤ 900 := by rw [← hL]; have := hl.llen _ hxE; omega
      have hrow := (h.each _ hxE).2.1
      obtain ⟨AL, cL, hvl⟩ := ownM_slice hrow
      rw [hL] at hvl
      have hcell : ∀ W, Fr (fun _ => False) w W → W.cell? ⟨R, 3, none⟩ = some (.slice (some ⟨g, 0, none⟩) E.length c) ∧ W.cell? ⟨g, i, none⟩ = some (.pointer (some ⟨xB, 0, none⟩)) ∧ W.cell? ⟨xB, 2, none⟩ = some (.slice AL L.length cL) := fun W hW => by
        obtain ⟨a1, a2, a3⟩ := hf W hW
        rw [hxB] at a2 a3
        have a4 := blk_cell a3 2
        rw [← hvl]
        exact ⟨a1, a2, a4⟩
      have hat : ∀ W, Fr (fun _ => False) w W → Calls Tryz.prog 49 #[.pointer (some ⟨xB, 0, none⟩), .int .i64 id] W fun e w' => e = .returned (.int .i64 (atM L id)) ∧ w' = W := fun W hW => by
        have h1 := refAt_any ((h.each _ hxE).fr hW fun _ _ e => e) id (by rw [hL]; omega)
        rw [hL, hxB] at h1
        exact h1
      have hon : onD id E[i] = decide (0 ≤ atM L id) := by unfold onD; rw [hL]
      have hmem : ∀ W, Fr (fun _ => False) w W → ReadsM W AL L := fun W hW => by
        have h1 := ((h.each _ hxE).fr hW fun _ _ e => e).2.1
        rw [hvl, hL] at h1
        exact reads_ownM h1
      have HC := Lib.hid hcell
      have HAt := Lib.hid hat
      have HM := Lib.hid hmem
      have HX := Lib.hid (And.intro hL hon)
      obtain ⟨am, ham⟩ : ∃ am, atM L id = am := ⟨_, rfl⟩
      rw [ham] at HAt
      have HAm := Lib.hid ham
      have n1 : (i : Int) < (E.length : Int) := by omega
      have n2 : decide ((i : Int) < (E.length : Int)) = true := by simp; omega
      have q0 : (0 : Int) ≤ (i : Int) := by omega
      clear h hl hv hn hf hL hxB hxE hrow hvl hcell hat hon hmem ham
      go_wp2_with fail
      go_loopw [5, 7, 8] (fun o t _ V => ∃ (k : Nat) (ys : List Int) (A2 : Option Addr) (c2 : Nat), t = .int .i64 k ∧ o = .slice A2 ys.length c2 ∧ k ≤ L.length ∧ Hid (PeR w E id i k ys (.slice A2 ys.length c2) V)) (fun _ t _ _ => L.length - (RowKit.intOf t).toNat)
      case atStart => exact ⟨0, xs, A1, c1, rfl, rfl, Nat.zero_le _, HG⟩
      case round =>
        obtain ⟨k, ys, A2, c2, rfl, rfl, hk, HP⟩ := hrel
        rename World => V
        clear s0
        obtain ⟨t1, t2, t3⟩ := HC.out V HP.out.fr
        by_cases hlk : k < L.length
        · obtain ⟨g2, o2, rfl, hg2, hr⟩ := HM.out V HP.out.fr (by omega)
          have e0 := (hr k hlk).1
          obtain ⟨y, hy⟩ : ∃ y, L[k].1 = y := ⟨_, rfl⟩
          rw [hy] at e0
          have HY := Lib.hid hy
          have m1 : (k : Int) < (L.length : Int) := by omega
          have m2 : decide ((k : Int) < (L.length : Int)) = true := by simp; omega
          have m0 : (0 : Int) ≤ (k : Int) := by omega
          have HA := HAt.out V HP.out.fr
          have HA2 := Lib.hid HA
          clear hr hy hg2 HA
          by_cases hid : y = id
          · have hne : (y != id) = false := by rw [hid]; simp
            have hN : Hid (PeR w E id i (k + 1) ys (.slice A2 ys.length c2) V) := Lib.hid (HP.out.skip hlt (by rw [HX.out.1]; exact hlk) (.inl (by
              have := HY.out
              simp only [HX.out.1]; rw [this]; exact hid)))
            clear hid
            go_wp2_with fail
            go_roundw
            case rel => exact ⟨k + 1, ys, A2, c2, by go_num, rfl, by omega, hN⟩
            case measure => simp [RowKit.intOf]; omega
          · have hne : (y != id) = true := by simpa using hid
            by_cases ha : (0 : Int) ≤ am
            · have ha1 : am ≥ 0 := ha
              have ha2 : decide (am ≥ 0) = true := by simp; omega
              have HD := Lib.hid (And.intro hid ha)
              have HAd := Lib.hid (add10 HP.out.own HP.out.up (by have := HP.out.len; omega) HP.out.fr.size y)
              clear hid ha
              go_wp2_with fail
              refine HA2.out.mono ?_
              rintro e9 V9 ⟨rfl, rfl⟩
              go_wp2_with fail
              refine HAd.out.mono ?_
              rintro e9 V2 ⟨⟨v9, rfl, o9, _⟩, b9⟩
              obtain ⟨A3, c3, rfl⟩ := row_slice o9
              have hN : Hid (PeR w E id i (k + 1) (insI ys y) (.slice A3 (insI ys y).length c3) V2) := Lib.hid (by
                have hy2 : E[i].x.L[k]'(by rw [HX.out.1]; exact hlk) = L[k] := by simp only [HX.out.1]
                have h1 := HP.out.add hlt (by rw [HX.out.1]; exact hlk) (by rw [hy2, HY.out]; exact HD.out.1) (by rw [HX.out.2, HAm.out, decide_eq_true HD.out.2]) (by rw [hy2, HY.out]; exact o9) b9
                rw [hy2, HY.out] at h1
                exact h1)
              clear o9 b9 HAd HA2
              go_wp2_with fail
              go_roundw
              case rel => exact ⟨k + 1, insI ys y, A3, c3, by go_num, rfl, by omega, hN⟩
              case measure => simp [RowKit.intOf]; omega
            · have ha1 : ¬ am ≥ 0 := ha
              have ha2 : decide (am ≥ 0) = false := by simp; omega
              have hN : Hid (PeR w E id i (k + 1) ys (.slice A2 ys.length c2) V) := Lib.hid (HP.out.skip hlt (by rw [HX.out.1]; exact hlk) (.inr (by rw [HX.out.2, HAm.out, decide_eq_false ha])))
              clear hid ha
              go_wp2_with fail
              refine HA2.out.mono ?_
              rintro e9 V9 ⟨rfl, rfl⟩
              go_wp2_with fail
              go_roundw
              case rel => exact ⟨k + 1, ys, A2, c2, by go_num, rfl, by omega, hN⟩
              case measure => simp [RowKit.intOf]; omega
        · have m1 : ¬ (k : Int) < (L.length : Int) := by omega
          have m2 : decide ((k : Int) < (L.length : Int)) = false := by simp; omega
          have hN : Hid (PeR w E id (i + 1) 0 ys (.slice A2 ys.length c2) V) := Lib.hid (PeR.next hlt (by rw [HX.out.1, show L.length = k by omega]; exact HP.out) (by rw [HX.out.1]; exact hLl))
          go_wp2_with fail
          go_roundw
          case rel => exact ⟨i + 1, ys, A2, c2, by go_num, rfl, by omega, hN⟩
          case measure => simp [RowKit.intOf]; omega
    · have n1 : ¬ (i : Int) < (E.length : Int) := by omega
      have n2 : decide ((i : Int) < (E.length : Int)) = false := by simp; omega
      go_wp2_with fail
      go_ret
      have hie : i = E.length := by omega
      have hp := HG.out
      rw [hie] at hp
      refine ⟨⟨_, xs, rfl, hp.own, hp.up, by have := hp.len; omega, fun y => ?_⟩, hp.fr.below (Nat.le_refl _) fun _ _ e => e.elim⟩
      rw [hp.mem y, List.take_length]
      exact ⟨fun h => by
        rcases h with h | ⟨h, _⟩
        · exact h
        · omega, .inl⟩
end Go.Proofs.YtlkeomcillencaaGreat
end
section
/- Layer 20: both tables in one world. -/
namespace Go.Proofs.YtlkeomcillencaaGreat
open Go Go.RowKit Go.Maps Go.Sort Go.Shelf Go.Lib

/-- the program's rooms and the document's, apart -/
structure Two20 (n m base : Nat) (mr mj mb : Int) (R P : Nat) (A : List Rm) (Xs : List Rx) (w0 w : World) : Prop where
  st : ∃ t b tr X C Q L v D E, RsPh base w R t b tr X C mr mj mb Q L ∧ RsLg n Q L ∧ Q.map (·.r) = A ∧ RdPh base w P v D mr mj mb E ∧ RdLg m E ∧ E.map (·.x) = Xs ∧ ∀ k, C k = tag0 ∨ D k = tag0
  up : RowKit.Below base w0 w
section
variable {n m base : Nat} {mr mj mb : Int} {R P : Nat} {A : List Rm} {Xs : List Rx} {w0 w w' : World}
theorem Two20.below (h : Two20 n m base mr mj mb R P A Xs w0 w) (hb : RowKit.Below w.heap.size w w') : Two20 n m base mr mj mb R P A Xs w0 w' := by
  obtain ⟨⟨t, b, tr, X, C, Q, L, v, D, E, h1, h2, h3, h4, h5, h6, h7⟩, h8⟩ := h
  exact ⟨⟨t, b, tr, X, C, Q, L, v, D, E, h1.below hb, h2, h3, h4.below hb, h5, h6, h7⟩, h8.trans (hb.mono (by have := h1.base_le; omega))⟩
theorem Two20.more (h : Two20 n m base mr mj mb R P A Xs w0 w) : Two20 (n + 1) (m + 1) base mr mj mb R P A Xs w0 w := by
  obtain ⟨⟨t, b, tr, X, C, Q, L, v, D, E, h1, h2, h3, h4, h5, h6, h7⟩, h8⟩ := h
  exact ⟨⟨t, b, tr, X, C, Q, L, v, D, E, h1, h2.more (Nat.le_succ n), h3, h4, h5.more (Nat.le_succ m), h6, h7⟩, h8⟩
theorem RdPh.up {v : Value} {D : Nat → Tag} {E : List RdE} {w1 : World} (h : RdPh base w P v D mr mj mb E) (hf : Fr (fun k => D k ≠ tag0) w w1) {q : Nat} (hq : q ≤ base) (hb : RowKit.Below q w0 w) (h0 : q ≤ w0.heap.size) : RowKit.Below q w0 w1 :=
  hb.trans (hf.below (Nat.le_trans h0 hb.size) fun k _ e => Nat.le_trans hq (h.lt e).1)
/-- the program does a step -/
theorem two_left {t b tr : Nat} {X : Nat → Prop} {C D : Nat → Tag} {Q Q' : List RmE} {L L' : List (Int × List UInt8)} {v : Value} {E : List RdE} {n2 : Nat} (hup : RowKit.Below base w0 w) (h0 : base ≤ w0.heap.size)
    (h1 : RsPh base w R t b tr X C mr mj mb Q L) (h4 : RdPh base w P v D mr mj mb E) (h5 : RdLg m E) (h7 : ∀ k, C k = tag0 ∨ D k = tag0) (hs : RsTo base R C mr mj mb Q' L' w w') (hl : RsLg n2 Q' L') :
    Two20 n2 m base mr mj mb R P (Q'.map (·.r)) (E.map (·.x)) w0 w' := by
  obtain ⟨t2, b2, tr2, X2, C2, k1, k2, k3⟩ := hs
  refine ⟨⟨t2, b2, tr2, X2, C2, Q', L', v, D, E, k1, hl, rfl, h4.fr k3 fun k hk e => ?_, h5, rfl, fun k => ?_⟩, h1.up k3 (Nat.le_refl _) hup h0⟩
  · rcases h7 k with a | a
    · exact e a
    · exact hk a
  · by_cases hk : k < w.heap.size
    · rw [k2 k hk]; exact h7 k
    · exact .inr (h4.cN k (by omega))
/-- the document does a step -/
theorem two_right {t b tr : Nat} {X : Nat → Prop} {C D : Nat → Tag} {Q : List RmE} {L : List (Int × List UInt8)} {v : Value} {E E' : List RdE} {m2 : Nat} (hup : RowKit.Below base w0 w) (h0 : base ≤ w0.heap.size)
    (h1 : RsPh base w R t b tr X C mr mj mb Q L) (h2 : RsLg n Q L) (h4 : RdPh base w P v D mr mj mb E) (h7 : ∀ k, C k = tag0 ∨ D k = tag0) (hs : RdTo base P D mr mj mb E' w w') (hl : RdLg m2 E') :
    Two20 n m2 base mr mj mb R P (Q.map (·.r)) (E'.map (·.x)) w0 w' := by
  obtain ⟨v2, D2, k1, k2, k3⟩ := hs
  refine ⟨⟨t, b, tr, X, C, Q, L, v2, D2, E', h1.fr k3 fun k hk e => ?_, h2, rfl, k1, hl, rfl, fun k => ?_⟩, h4.up k3 (Nat.le_refl _) hup h0⟩
  · rcases h7 k with a | a
    · exact hk a
    · exact e a
  · by_cases hk : k < w.heap.size
    · rw [k2 k hk]; exact h7 k
    · exact .inl (h1.cN k (by omega))
theorem two_part_p (h : Two20 n m base mr mj mb R P A Xs w0 w) (h0 : base ≤ w0.heap.size) (hn : n ≤ 80000) {id : Int} (hid : OkKIS id) {nm : List UInt8} (hnm : nm.length ≤ 1000) :
    Calls Tryz.prog 10 #[.pointer (some ⟨R, 0, none⟩), .int .i64 id, .string (bs nm)] w fun e w' => (∃ bo, e = .returned (.bool bo)) ∧ Two20 n m base mr mj mb R P (partA A id (foldL nm)) Xs w0 w' := by
  obtain ⟨⟨t, b, tr, X, C, Q, L, v, D, E, h1, h2, rfl, h4, h5, rfl, h7⟩, h8⟩ := h
  refine (part_w h1 h2 hn hid hnm).mono fun e w' ⟨he, Q', k1, k2, k3⟩ => ⟨⟨_, he⟩, ?_⟩
  rw [← k3]; exact two_left h8 h0 h1 h4 h5 h7 k1 k2
theorem two_join_p (h : Two20 n m base mr mj mb R P A Xs w0 w) (h0 : base ≤ w0.heap.size) (hn : n ≤ 80000) {id : Int} (hid : OkKIS id) {nm : List UInt8} (hnm : nm.length ≤ 1000) :
    Calls Tryz.prog 14 #[.pointer (some ⟨R, 0, none⟩), .int .i64 id, .string (bs nm)] w fun e w' => (∃ p m, e = .returned (.tuple #[p, m])) ∧ Two20 (n + 1) m base mr mj mb R P (joinA mr mj mb A id nm).1 Xs w0 w' := by
  obtain ⟨⟨t, b, tr, X, C, Q, L, v, D, E, h1, h2, rfl, h4, h5, rfl, h7⟩, h8⟩ := h
  refine (join_w h1 h2 hn hid hnm).mono fun e w' ⟨Q', L', k1, k2, k3, k4⟩ => ⟨?_, ?_⟩
  · rcases k4 with ⟨_, he⟩ | ⟨f, _, _, he⟩
    · exact ⟨_, _, he⟩
    · exact ⟨_, _, he⟩
  · rw [← k3]; exact two_left h8 h0 h1 h4 h5 h7 k1 k2
theorem two_part_d (h : Two20 n m base mr mj mb R P A Xs w0 w) (h0 : base ≤ w0.heap.size) (hm : m ≤ 1000) (id : Int) {nm : List UInt8} (hnm : nm.length ≤ 1000) :
    Calls Tryz.prog 11 #[.pointer (some ⟨P, 0, none⟩), .int .i64 id, .string (bs nm)] w fun e w' => (∃ bo, e = .returned (.bool bo)) ∧ Two20 n m base mr mj mb R P A (partXs Xs id (foldL nm)) w0 w' := by
  obtain ⟨⟨t, b, tr, X, C, Q, L, v, D, E, h1, h2, rfl, h4, h5, rfl, h7⟩, h8⟩ := h
  refine (refPart_any h4 h5 hm id nm hnm).mono fun e w' hp => ?_
  obtain ⟨E', he, k1, k2, k3⟩ := hp.to h4 h5
  exact ⟨he, by rw [← k3]; exact two_right h8 h0 h1 h2 h4 h7 k1 k2⟩
theorem two_join_d (h : Two20 n m base mr mj mb R P A Xs w0 w) (h0 : base ≤ w0.heap.size) (hm : m ≤ 1000) (id : Int) {nm : List UInt8} (hnm : nm.length ≤ 1000) :
    Calls Tryz.prog 15 #[.pointer (some ⟨P, 0, none⟩), .int .i64 id, .string (bs nm)] w fun e w' => (∃ p m, e = .returned (.tuple #[p, m])) ∧ Two20 n (m + 1) base mr mj mb R P A (joinXs mr mj mb Xs id nm).1 w0 w' := by
  obtain ⟨⟨t, b, tr, X, C, Q, L, v, D, E, h1, h2, rfl, h4, h5, rfl, h7⟩, h8⟩ := h
  refine (refJoin_any h4 h5 hm id nm hnm).mono fun e w' hp => ?_
  obtain ⟨E', k1, k2, k3, k4⟩ := hp.to h4 h5 hnm
  refine ⟨?_, by rw [← k3]; exact two_right h8 h0 h1 h2 h4 h7 k1 k2⟩
  rcases k4 with ⟨_, he⟩ | ⟨f, _, _, he⟩
  · exact ⟨_, _, he⟩
  · exact ⟨_, _, he⟩
/-- both new -/
theorem two_new (h : RsOn 0 base mr mj mb R A w0 w) (hA : A = []) (h0 : base ≤ w.heap.size) : Two20 0 0 base mr mj mb R w.heap.size [] [] w0 (w.alloc (rdO mr mj mb (.slice none 0 0))) := by
  obtain ⟨⟨t, b, tr, X, C, Q, L, h1, h2, h3⟩, h4⟩ := h
  subst hA
  obtain rfl : Q = [] := List.map_eq_nil_iff.1 h3
  have hb : RowKit.Below w.heap.size w (w.alloc (rdO mr mj mb (.slice none 0 0))) := (Below.refl _ w).alloc (Nat.le_refl _) _
  refine ⟨⟨t, b, tr, X, C, [], L, .slice none 0 0, fun k => if k = w.heap.size then (1, []) else tag0, [], h1.below hb, h2, rfl, ⟨heap_alloc_new w _, ownPd_nil _ _, (fun e he => by cases he), List.nodup_nil, if_pos rfl, (fun k hk => by cases hk), (fun e he => by cases he), fun k hk => if_neg (by simp at hk; omega), fun k hk => if_neg (by omega)⟩, ⟨Nat.le_refl _, (fun e he => by cases he), (fun e he => by cases he), fun e he => by cases he⟩, rfl, fun k => ?_⟩, h4.trans (hb.mono h0)⟩
  by_cases e : k = w.heap.size
  · exact .inl (h1.cN k (by omega))
  · exact .inr (if_neg e)
end
/-- who is on a room, on both sides -/
theorem onX_has (x : Rx) (id : Int) : onX id x = hasM x.L id := by
  unfold onX
  cases hb : hasM x.L id with
  | false => have := atM_no.2 hb; rw [decide_eq_false (by omega)]
  | true =>
    have : ¬ atM x.L id < 0 := fun e => by rw [atM_no.1 e] at hb; cases hb
    rw [decide_eq_true (by omega)]
theorem RelL.any : ∀ {A : List Rm} {X : List Rx}, RelL A X → ∀ a b, (A.any fun r => hasM r.mem a && hasM r.mem b) = X.any fun x => onX a x && onX b x
  | [], [], _, _, _ => rfl
  | r :: A, x :: X, h, a, b => by rw [List.any_cons, List.any_cons, h.1.has a, h.1.has b, h.2.any a b]
def comA (A : List Rm) (a b : Int) : Bool := A.any fun r => hasM r.mem a && hasM r.mem b
theorem comA_comm (A : List Rm) (a b : Int) : comA A b a = comA A a b := by unfold comA; congr 1; funext r; exact Bool.and_comm _ _
theorem comA_iff {A : List Rm} {a b : Int} : comA A a b = true ↔ ∃ r ∈ A, hasM r.mem a = true ∧ hasM r.mem b = true := by
  unfold comA
  rw [List.any_eq_true]
  exact ⟨fun ⟨r, h1, h2⟩ => ⟨r, h1, by rw [Bool.and_eq_true] at h2; exact h2⟩, fun ⟨r, h1, h2⟩ => ⟨r, h1, by rw [Bool.and_eq_true]; exact h2⟩⟩
/-- peers on both sides are the same -/
theorem peers_same {A : List Rm} {Xs : List Rx} {E : List RdE} (hr : RelL A Xs) (hE : E.map (·.x) = Xs) {id : Int} {ps xs : List Int} (h1 : ps.Pairwise (· < ·)) (h2 : ∀ j, j ∈ ps ↔ j ≠ id ∧ ∃ r ∈ A, hasM r.mem id = true ∧ hasM r.mem j = true) (h3 : xs.Pairwise (· < ·)) (h4 : ∀ y, y ∈ xs ↔ ∃ e ∈ E, peT id y (onD id e) e.x.L) : ps = xs := by
  refine up_ext h1 h3 fun j => ?_
  rw [h2, h4, ← comA_iff]
  unfold comA
  rw [hr.any, ← hE, List.any_eq_true]
  constructor
  · rintro ⟨hj, x, hx, h5⟩
    obtain ⟨e, he, rfl⟩ := List.mem_map.1 hx
    rw [Bool.and_eq_true] at h5
    exact ⟨e, he, h5.1, hj, hasM_mem.1 (by rw [← onX_has]; exact h5.2)⟩
  · rintro ⟨e, he, h5, hj, hm⟩
    exact ⟨hj, e.x, List.mem_map_of_mem he, by rw [Bool.and_eq_true]; exact ⟨h5, by rw [onX_has]; exact hasM_mem.2 hm⟩⟩
/-- there are no more peers than pairs -/
theorem peers_few {n : Nat} {Q : List RmE} {L : List (Int × List UInt8)} (hl : RsLg n Q L) {id : Int} {ps : List Int} (h1 : ps.Pairwise (· < ·)) (h2 : ∀ j, j ∈ ps ↔ j ≠ id ∧ ∃ e ∈ Q, hasM e.r.mem id = true ∧ hasM e.r.mem j = true) : ps.length ≤ n := by
  have h3 := nodup_len (A := ps) (B := L.map (·.1)) (h1.imp fun h => by omega) fun j hj => by
    obtain ⟨_, e, he, _, h5⟩ := (h2 j).1 hj
    exact List.mem_map.2 ⟨(j, keyE e), (hl.pairs _ _).2 ⟨e, he, rfl, h5⟩, rfl⟩
  rw [List.length_map] at h3
  exact Nat.le_trans h3 hl.llen
theorem common_map (Q : List RmE) (a b : Int) : (Q.any fun e => hasM e.r.mem a && hasM e.r.mem b) = comA (Q.map (·.r)) a b := by unfold comA; rw [List.any_map]; rfl
theorem commonD_map {A : List Rm} {E : List RdE} (hr : RelL A (E.map (·.x))) (a b : Int) : (E.any fun e => onD a e && onD b e) = comA A a b := by
  unfold comA; rw [hr.any, List.any_map]; rfl
theorem peers_has {A : List Rm} {id b : Int} {ps : List Int} (h2 : ∀ j, j ∈ ps ↔ j ≠ id ∧ ∃ r ∈ A, hasM r.mem id = true ∧ hasM r.mem j = true) (hb : id ≠ b) : ps.contains b = comA A id b := by
  rw [Bool.eq_iff_iff, List.contains_iff_mem, h2, comA_iff]
  exact ⟨fun h => h.2, fun h => ⟨fun e => hb e.symm, h⟩⟩
end Go.Proofs.YtlkeomcillencaaGreat
end
