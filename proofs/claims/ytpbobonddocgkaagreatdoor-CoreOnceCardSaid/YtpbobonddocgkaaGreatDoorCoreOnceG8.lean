/- Texts of this proof, one behind the other. -/
import Derived.Test.YtpbobonddocgkaaGreatDoorCoreOnceG7
import Derived.DeepKeys4
import Derived.Maps.StringElems
import Derived.Test.YtpbobonddocgkaaGreatDoorCoreOnceG3
import Derived.Test.YtpbobonddocgkaaGreatDoorCoreOnceG1
import Derived.Test.YtpbobonddocgkaaGreatDoorCoreOnceG4
import Derived.Test.YtpbobonddocgkaaGreatDoorChecked
import Derived.Maps.OwnOps
import Derived.Maps.OwnSet
import Derived.Sort.KeysCollected
import Derived.Sort.Walk0
import Derived.Laws.Cover1
import Derived.WalkSpells
import Derived.Outline
set_option linter.unusedVariables false
set_option linter.unusedSimpArgs false
section
/- Layer 21: mathematics of the lists: names of numbers, each with its folded form. -/
namespace Go.Proofs.YtpbobonddocgkaaGreatDoor
open Go Go.RowKit Go.Maps

/-- a key of what is spelled: a number and a folded name -/
abbrev PlK : Type := { p : Int × List UInt8 // (Lit.int .i64 p.1).wf = true ∧ p.2.length ≤ maxLen }
/-- a number and a name -/
abbrev WEnt : Type := Int × List UInt8
def fkW (u : WEnt) : Int × List UInt8 := (u.1, foldL u.2)
def OkW (U : List WEnt) : Prop := ∀ u ∈ U, (Lit.int .i64 u.1).wf = true ∧ u.2.length ≤ 1000
/-- what is spelled, under each key: the entries' names -/
structure SpellW (U : List WEnt) (T : List (PlK × List UInt8)) : Prop where
  nd : (T.map (·.1)).Nodup
  mem : ∀ k v, (k, v) ∈ T ↔ ∃ u ∈ U, fkW u = k.1 ∧ u.2 = v
theorem spell_nil : SpellW [] [] := ⟨by simp, fun k v => by simp⟩
def keyW (u : WEnt) (h1 : (Lit.int .i64 u.1).wf = true) (h2 : u.2.length ≤ 1000) : PlK := ⟨fkW u, h1, by unfold fkW maxLen; simp; omega⟩
theorem SpellW.look {U : List WEnt} {T : List (PlK × List UInt8)} (h : SpellW U T) {k : PlK} {u : WEnt} (hu : u ∈ U) (hk : fkW u = k.1) : lookM T k = some u.2 := mem_lookM h.nd ((h.mem k u.2).2 ⟨u, hu, hk, rfl⟩)
theorem SpellW.put {U : List WEnt} {T : List (PlK × List UInt8)} (h : SpellW U T) {k : PlK} {u : WEnt} (hk : fkW u = k.1) (hn : fkW u ∉ U.map fkW) : SpellW (U ++ [u]) (setM T k u.2) := by
  refine ⟨nodup_setM h.nd k _, fun j v => ?_⟩
  rw [mem_setM, h.mem]
  constructor
  · rintro (⟨⟨x, hx, h1, h2⟩, h3⟩ | e)
    · exact ⟨x, List.mem_append_left _ hx, h1, h2⟩
    · obtain ⟨rfl, rfl⟩ := Prod.mk.inj e
      exact ⟨u, by simp, hk, rfl⟩
  · rintro ⟨x, hx, h1, h2⟩
    rcases List.mem_append.1 hx with hx | hx
    · refine .inl ⟨⟨x, hx, h1, h2⟩, fun e => hn ?_⟩
      have e2 : j = k := e
      rw [hk, ← e2, ← h1]
      exact List.mem_map_of_mem hx
    · rw [List.mem_singleton] at hx
      subst hx
      refine .inr ?_
      have : j = k := Subtype.ext (h1.symm.trans hk)
      rw [this, h2]
theorem SpellW.del {U : List WEnt} {T : List (PlK × List UInt8)} (h : SpellW U T) (k : PlK) : SpellW (U.filter fun u => decide (fkW u ≠ k.1)) (delM T k) := by
  refine ⟨nodup_delM h.nd k, fun j v => ?_⟩
  rw [mem_delM, h.mem]
  simp only [List.mem_filter, decide_eq_true_eq]
  constructor
  · rintro ⟨⟨x, hx, h1, h2⟩, h3⟩
    exact ⟨x, ⟨hx, fun e => h3 (Subtype.ext (h1.symm.trans e))⟩, h1, h2⟩
  · rintro ⟨x, ⟨hx, h4⟩, h1, h2⟩
    exact ⟨⟨x, hx, h1, h2⟩, fun e => h4 (by have e2 : j = k := e; rw [h1, e2])⟩
theorem SpellW.len {U : List WEnt} {T : List (PlK × List UInt8)} (h : SpellW U T) : T.length ≤ U.length := by
  have h1 := nodup_len (A := T.map fun p => p.1.1) (B := U.map fkW) (by
    have := h.nd
    rw [show (T.map fun p => p.1.1) = (T.map (·.1)).map (·.1) by rw [List.map_map]; rfl]
    exact List.Pairwise.map _ (fun a b h e => h (Subtype.ext e)) this) fun x hx => by
      obtain ⟨p, hp, rfl⟩ := List.mem_map.1 hx
      obtain ⟨u, hu, h2, _⟩ := (h.mem p.1 p.2).1 hp
      rw [← h2]
      exact List.mem_map_of_mem hu
  simpa using h1
/-- those of a number's whose folded name isn't that -/
theorem fk_less (U : List WEnt) (a : Int) (b : List UInt8) : (U.filter fun u => decide (fkW u ≠ (a, b))).map fkW = lessLIS (U.map fkW) a b := by
  unfold lessLIS
  rw [List.filter_map]
  rfl
theorem fk_drop (U : List WEnt) (a : Int) : (U.filter fun u => decide (u.1 ≠ a)).map fkW = (U.map fkW).filter fun p => decide (p.1 ≠ a) := by
  rw [List.filter_map]
  rfl
/-- the names of a number, by the order of their folded forms -/
structure NamesW (U : List WEnt) (a : Int) (ns : List (List UInt8)) : Prop where
  up : (ns.map foldL).Pairwise (· < ·)
  mem : ∀ n, n ∈ ns ↔ (a, n) ∈ U
theorem names_one {U : List WEnt} (hn : (U.map fkW).Nodup) {a : Int} {ns ms : List (List UInt8)} (h1 : NamesW U a ns) (h2 : NamesW U a ms) : ns = ms := by
  have e : ns.map foldL = ms.map foldL := up_extS h1.up h2.up fun x => by
    simp only [List.mem_map]
    constructor
    · rintro ⟨n, hx, rfl⟩; exact ⟨n, (h2.mem n).2 ((h1.mem n).1 hx), rfl⟩
    · rintro ⟨n, hx, rfl⟩; exact ⟨n, (h1.mem n).2 ((h2.mem n).1 hx), rfl⟩
  have inj : ∀ x ∈ ns, ∀ y ∈ ms, foldL x = foldL y → x = y := fun x hx y hy hf => by
    have a1 := (h1.mem x).1 hx
    have a2 := (h2.mem y).1 hy
    have : ∀ {V : List WEnt}, (V.map fkW).Nodup → ∀ p ∈ V, ∀ q ∈ V, fkW p = fkW q → p = q := by
      intro V
      induction V with
      | nil => intro _ p hp; cases hp
      | cons z r ih =>
        intro hV p hp q hq hpq
        rw [List.map_cons, List.nodup_cons] at hV
        rcases List.mem_cons.1 hp with e1 | hp2
        · rcases List.mem_cons.1 hq with e2 | hq2
          · rw [e1, e2]
          · exact absurd (by rw [← e1, hpq]; exact List.mem_map_of_mem hq2) hV.1
        · rcases List.mem_cons.1 hq with e2 | hq2
          · exact absurd (by rw [← e2, ← hpq]; exact List.mem_map_of_mem hp2) hV.1
          · exact ih hV.2 p hp2 q hq2 hpq
    exact (Prod.mk.inj (this hn _ a1 _ a2 (by unfold fkW; rw [hf]))).2
  have key : ∀ (xs ys : List (List UInt8)), (∀ x ∈ xs, ∀ y ∈ ys, foldL x = foldL y → x = y) → xs.map foldL = ys.map foldL → xs = ys := by
    intro xs
    induction xs with
    | nil => intro ys _ h; cases ys with | nil => rfl | cons _ _ => cases h
    | cons x r ih =>
      intro ys hi h
      cases ys with
      | nil => cases h
      | cons y s =>
        rw [List.map_cons, List.map_cons] at h
        obtain ⟨h3, h4⟩ := List.cons.inj h
        rw [hi x (by simp) y (by simp) h3, ih s (fun a ha b hb => hi a (by simp [ha]) b (by simp [hb])) h4]
  exact key ns ms inj e
end Go.Proofs.YtpbobonddocgkaaGreatDoor
end
section
/- Layer 21: the lists as they lie: what is spelled (a map keyed by places); New, rel, Count, Has, By. -/
namespace Go.Proofs.YtpbobonddocgkaaGreatDoor
open Go Go.RowKit Go.Maps Go.Lib

def kVW (k : PlK) : Value := .agg #[.int .i64 k.1.1, .string (bs k.1.2)]
def kLW (k : PlK) : Lit := .string (keyBytes [.int .i64 k.1.1, .string k.1.2])
theorem Tryz.laidOutW : laidOutB Tryz.prog = true := by kernel_rfl
theorem Tryz.rowW : (86 : TypeId) < Tryz.prog.types.size := of_decide_eq_true (by kernel_rfl)
theorem Tryz.wideW : (match Tryz.prog.underlying 86 with | some (.array _ _) | some (.struct _) => true | _ => false) = true := by rw [Tryz.underlying86]
set_option maxRecDepth 1000000 in
theorem lawW : WideMaps.KeyLaw Tryz.prog 86 := deep_law_laid Tryz.laidOutW (m := 2) (by omega) Tryz.rowW (by kernel_rfl) Tryz.wideW
theorem keyedW : Keyed Tryz.prog 86 := Keyed.of_law lawW
set_option maxRecDepth 1000000 in
theorem keyOfW (k : PlK) : keyOf Tryz.prog 86 (kVW k) = some (kLW k) := by
  have h1 : Tryz.prog.keyType 86 = true := by kernel_rfl
  have hc : Tryz.prog.cellsOf 86 = 2 := by kernel_rfl
  have hc1 : Tryz.prog.cellsOf 3 = 1 := by kernel_rfl
  have hc2 : Tryz.prog.cellsOf 9 = 1 := by kernel_rfl
  have h2 : (kVW k).formed Tryz.prog 86 = true := by simp [kVW, Value.formed, Tryz.underlying86, hc]
  have h3 : (bs k.1.2).size ≤ maxLen := by simpa using k.2.2
  obtain ⟨m, hm⟩ : ∃ m, Tryz.prog.types.size = m + 1 := Nat.exists_eq_succ_of_ne_zero (Nat.ne_of_gt (Nat.lt_of_le_of_lt (Nat.zero_le _) Tryz.rowW))
  unfold keyOf
  rw [Tryz.underlying86]
  simp only [h1, h2, Bool.and_self, if_true, hm]
  unfold Program.keyLits
  simp [kVW, Value.cells, Tryz.underlying86, hc, hc1, hc2, Program.keyLits, Tryz.underlying3, Tryz.underlying9, k.2.1, h3, kLW]
  rw [if_pos k.2.2]
  rfl
theorem kVW_inj {a b : PlK} (h : kVW a = kVW b) : a = b := by
  unfold kVW at h
  simp only [Value.agg.injEq] at h
  have h1 := congrArg (fun x : Array Value => x.toList) h
  simp only [List.cons.injEq, Value.int.injEq, Value.string.injEq, true_and, and_true] at h1
  refine Subtype.ext (Prod.ext h1.1 ?_)
  have := congrArg (fun x : ByteArray => x.data.toList) h1.2
  simpa using this
theorem kLW_inj : ∀ a b : PlK, kLW a = kLW b → a = b := fun a b h => kVW_inj (keyedW.inj (keyOfW a) ((keyOfW b).trans (by rw [h])))
theorem kLW_key (k : PlK) : WideAt.IsKeyLit (kLW k) := by simp [kLW, WideAt.IsKeyLit]
def vSW (s : List UInt8) : DataW Unit := .lit (.string s)
theorem vSW_inj : ∀ a b : List UInt8, vSW a = vSW b → a = b := fun a b h => by simpa [vSW] using h
/-- block b is the map of what is spelled -/
def OwnMW (w : World) (b : Nat) (T : List (PlK × List UInt8)) : Prop := (∃ D : DataW Unit, w.ownsMap Tryz.prog 86 (plainElem Tryz.prog 9) b T.length D ∧ MapHas kLW vSW D T) ∧ ∀ p ∈ T, p.2.length ≤ maxLen
theorem ownMW_lt {w : World} {b : Nat} {T : List (PlK × List UInt8)} (h : OwnMW w b T) : b < w.heap.size := by
  obtain ⟨⟨D, h1, _⟩, _⟩ := h
  exact h1.lt
theorem ownMW_same {w w' : World} {b : Nat} {T : List (PlK × List UInt8)} (h : OwnMW w b T) (he : w'.heap[b]? = w.heap[b]?) : OwnMW w' b T := by
  obtain ⟨⟨D, h1, h2⟩, h3⟩ := h
  exact ⟨⟨D, owns_sameP h1 he, h2⟩, h3⟩
theorem lookW {w : World} {b : Nat} {T : List (PlK × List UInt8)} (h : OwnMW w b T) (k : PlK) : (Instr.lookup 82 (.map (some b)) (kVW k) false).run Tryz.prog w = .ok (.string (bs ((lookM T k).getD []))) w := by
  obtain ⟨⟨D, a5, a6⟩, a7⟩ := h
  have hz : (zeroValue 9).run Tryz.prog w = .ok (.string ByteArray.empty) w := by kernel_rfl
  obtain ⟨v, ps, h1, h2⟩ := a5.lookup keyedW Tryz.underlying82 hz (zd := .lit (.string [])) (zp := []) (plainElem_string Tryz.underlying9 (by decide)) (keyOfW k)
  rw [h1]
  rw [a6.look kLW_inj] at h2
  obtain ⟨s, rfl, h3⟩ := plainElem_string_inv Tryz.underlying9 h2
  have h4 := (Prod.mk.inj h3.1).1
  cases hl : lookM T k with
  | none =>
    rw [hl] at h4
    simp only [DataW.lit.injEq, Lit.string.injEq] at h4
    have : s = bs [] := ba_ext (by simpa using h4.symm)
    rw [this]; rfl
  | some u =>
    rw [hl] at h4
    simp only [vSW, DataW.lit.injEq, Lit.string.injEq] at h4
    have : s = bs u := ba_ext (by simpa using h4.symm)
    rw [this]; rfl
theorem putW {w : World} {b : Nat} {T : List (PlK × List UInt8)} (h : OwnMW w b T) (k : PlK) (v : List UInt8) (hv : v.length ≤ 1000000) (hl : T.length ≤ 1000000) :
    ∃ w', (Instr.mapUpdate 82 (.map (some b)) (kVW k) (.string (bs v))).run Tryz.prog w = .ok () w' ∧ OwnMW w' b (setM T k v) ∧ Fr (fun j => j = b) w w' := by
  obtain ⟨⟨D, a5, a6⟩, a7⟩ := h
  obtain ⟨w', h1, h2, h3⟩ := a5.update keyedW Tryz.underlying82 (by unfold maxLen; omega) (keyOfW k) (val := .string (bs v)) (d := vSW v) (ps := []) (plainElem_string Tryz.underlying9 (by unfold maxLen; simp; omega))
  have h6 := a6.put kLW_inj (a5.tidy keyedW) k (kLW_key k) v
  refine ⟨w', h1, ⟨⟨_, by rw [← h6.size]; exact owns_tightP h2, h6⟩, fun p hp => ?_⟩, (Fr.refl _ w).grown h3 fun j e => by cases e; exact .inr rfl⟩
  rcases mem_setM.1 hp with ⟨hp, _⟩ | rfl
  · exact a7 p hp
  · simp only []; unfold maxLen; omega
theorem delW {w : World} {b : Nat} {T : List (PlK × List UInt8)} (h : OwnMW w b T) (k : PlK) (ty : TypeId) :
    ∃ w', (Builtin.delete_ #[82, 86] ty #[.map (some b), kVW k]).run Tryz.prog w = .ok (.tuple #[]) w' ∧ OwnMW w' b (delM T k) ∧ Fr (fun j => j = b) w w' := by
  obtain ⟨⟨D, a5, a6⟩, a7⟩ := h
  obtain ⟨w', h1, h2, h3⟩ := a5.drop keyedW Tryz.underlying82 (keyOfW k) ty
  have h6 := a6.del kLW_inj (a5.tidy keyedW) k
  exact ⟨w', h1, ⟨⟨_, by rw [← h6.size]; exact owns_tightP h2, h6⟩, fun p hp => a7 p (mem_delM.1 hp).1⟩, (Fr.refl _ w).grown h3.grown fun j e => by cases e; exact .inr rfl⟩
/-- the lists as they lie: their blocks are Y -/
def WisAt (base : Nat) (w : World) (l : Nat) (Y : Nat → Prop) (most : Int) (U : List WEnt) : Prop :=
  ∃ t b X T, base ≤ l ∧ base ≤ b ∧ l ≠ b ∧ w.heap[l]? = some (.cells #[.pointer (some ⟨t, 0, none⟩), .map (some b)] 84 (0, 0)) ∧ RelAtIS base w t X most (U.map fkW) ∧ OwnMW w b T ∧ SpellW U T ∧ ¬ X l ∧ ¬ X b ∧ OkW U ∧ ∀ j, Y j ↔ (j = l ∨ j = b ∨ X j)
theorem WisAt.same {base : Nat} {w w' : World} {l : Nat} {Y : Nat → Prop} {most : Int} {U : List WEnt} (h : WisAt base w l Y most U) (hs : ∀ j, Y j → w'.heap[j]? = w.heap[j]?) : WisAt base w' l Y most U := by
  obtain ⟨t, b, X, T, h1, h2, h3, h4, h5, h6, h7, h8, h9, h10, h11⟩ := h
  exact ⟨t, b, X, T, h1, h2, h3, (hs l ((h11 l).2 (.inl rfl))).trans h4, h5.same fun j hj => hs j ((h11 j).2 (.inr (.inr hj))), ownMW_same h6 (hs b ((h11 b).2 (.inr (.inl rfl)))), h7, h8, h9, h10, h11⟩
theorem WisAt.lt {base : Nat} {w : World} {l : Nat} {Y : Nat → Prop} {most : Int} {U : List WEnt} (h : WisAt base w l Y most U) {j : Nat} (hj : Y j) : base ≤ j ∧ j < w.heap.size := by
  obtain ⟨t, b, X, T, h1, h2, h3, h4, h5, h6, h7, h8, h9, h10, h11⟩ := h
  rcases (h11 j).1 hj with rfl | rfl | hj
  · exact ⟨h1, blk_lt h4⟩
  · exact ⟨h2, ownMW_lt h6⟩
  · exact h5.lt hj
theorem WisAt.fr {base : Nat} {w w' : World} {l : Nat} {Y Z : Nat → Prop} {most : Int} {U : List WEnt} (h : WisAt base w l Y most U) (hf : Fr Z w w') (hz : ∀ j, Y j → ¬ Z j) : WisAt base w' l Y most U := h.same fun j hj => hf.block j (h.lt hj).2 (hz j hj)
theorem WisAt.nodup {base : Nat} {w : World} {l : Nat} {Y : Nat → Prop} {most : Int} {U : List WEnt} (h : WisAt base w l Y most U) : (U.map fkW).Nodup := by
  obtain ⟨t, b, X, T, h1, h2, h3, h4, h5, h6, h7, h8, h9, h10, h11⟩ := h
  exact h5.nodup
theorem WisAt.ok {base : Nat} {w : World} {l : Nat} {Y : Nat → Prop} {most : Int} {U : List WEnt} (h : WisAt base w l Y most U) : OkW U := by
  obtain ⟨t, b, X, T, h1, h2, h3, h4, h5, h6, h7, h8, h9, h10, h11⟩ := h
  exact h10
set_option maxHeartbeats 1000000 in
theorem wisRelNil (w : World) : Calls Tryz.prog 38 #[.pointer none] w fun e w' => e = .returned (.pointer none) ∧ w' = w := by
  go_enter Tryz.func38, Tryz.ntmps38
  go_wp2_with fail
  go_ret
  exact ⟨rfl, rfl⟩
theorem wisRel {l t b : Nat} {w : World} (h : w.heap[l]? = some (.cells #[.pointer (some ⟨t, 0, none⟩), .map (some b)] 84 (0, 0))) : Calls Tryz.prog 38 #[.pointer (some ⟨l, 0, none⟩)] w fun e w' => e = .returned (.pointer (some ⟨t, 0, none⟩)) ∧ w' = w := by
  have c0 := blk_cell h 0
  clear h
  go_enter Tryz.func38, Tryz.ntmps38
  go_wp2_with fail
  go_ret
  exact ⟨rfl, rfl⟩
end Go.Proofs.YtpbobonddocgkaaGreatDoor
end
section
/- Layer 21: the lists: New, Has, Count, By, Add, Remove; nil ones. -/
namespace Go.Proofs.YtpbobonddocgkaaGreatDoor
open Go Go.RowKit Go.Maps Go.Lib

theorem textW (n : List UInt8) (w : World) (h : n.length ≤ 1000000) : Calls Tryz.prog 37 #[.string (bs n)] w fun e w' => e = .returned (.string (bs (foldL n))) ∧ Below w.heap.size w w' := text_any (bs n) w (by simpa using h)
theorem okF {n : List UInt8} (h : n.length ≤ 1000) : OkKSI (foldL n) := by unfold OkKSI maxLen; simp; omega
/-- new lists -/
def NewWs (most : Int) (w : World) (e : Ending) (w' : World) : Prop := ∃ l Y, e = .returned (.pointer (some ⟨l, 0, none⟩)) ∧ WisAt w.heap.size w' l Y most [] ∧ (∀ j, Y j → w.heap.size ≤ j) ∧ Below w.heap.size w w'
set_option maxHeartbeats 1000000 in
theorem wisNew {most : Int} (hm : 0 ≤ most ∧ most ≤ 100000) (w : World) : Calls Tryz.prog 19 #[.int .i64 most] w (NewWs most w) := by
  have hmm := @run_makeMap Tryz.prog
  have HN : Hid (∀ V, Calls Tryz.prog 49 #[.int .i64 most] V (NewRIS most V)) := fun V => relNewIS hm V
  obtain ⟨w1, hw1⟩ : ∃ w1, (w.alloc (Obj.map #[] 0)).alloc (Obj.cells #[.pointer none, .map (some w.heap.size)] 84) = w1 := ⟨_, rfl⟩
  have z1 : w1.heap.size = w.heap.size + 2 := by rw [← hw1]; simp
  have f1 : Fr (fun _ => False) w w1 := by rw [← hw1]; exact ((Fr.refl _ w).alloc _).alloc _
  have k1 : w1.heap[w.heap.size + 1]? = some (.cells #[.pointer none, .map (some w.heap.size)] 84 (0, 0)) := by rw [← hw1]; exact heap_alloc2_new w _ _
  have m1 : OwnMW w1 w.heap.size [] := by
    refine ⟨⟨.map [], ?_, mapHas_empty _ _⟩, fun p hp => by cases hp⟩
    rw [← hw1]
    exact (World.ownsMap_made w _ _ _).alloc _
  have HW := Lib.hid hw1
  have H := Lib.hid (And.intro z1 (And.intro f1 (And.intro k1 m1)))
  clear hw1 z1 f1 k1 m1
  go_enter Tryz.func19, Tryz.ntmps19
  go_wp2_with fail
  rw [HW.out]
  refine (HN.out w1).mono ?_
  rintro e w2 ⟨t, X, rfl, h2, x2, b2⟩
  obtain ⟨z1, f1, k1, m1⟩ := H.out
  have k2 := (Fr.of_below (X := fun _ => False) b2).blk k1 fun e => e
  have c0 := blk_cell k2 0
  have d0 := blk_free k2 0
  have K := Lib.hid (And.intro h2 (And.intro x2 (And.intro b2 k2)))
  clear z1 f1 k1 m1 h2 x2 b2 k2
  go_wp2_with fail
  go_ret
  obtain ⟨z1, f1, k1, m1⟩ := H.out
  obtain ⟨h2, x2, b2, k2⟩ := K.out
  have fs : Fr (fun j => j = w.heap.size + 1) w2 (w2.setCell ⟨w.heap.size + 1, 0, none⟩ (.pointer (some ⟨t, 0, none⟩))) := Fr.setCell (X := fun j => j = w.heap.size + 1) (Fr.refl _ w2) _ rfl _
  have h3 := h2.fr fs fun j hj e => by have := x2 j hj; omega
  refine ⟨w.heap.size + 1, fun j => j = w.heap.size + 1 ∨ j = w.heap.size ∨ X j, rfl, ⟨t, w.heap.size, X, [], by omega, Nat.le_refl _, by omega, ?_, ?_, ?_, spell_nil, fun e => by have := x2 _ e; omega, fun e => by have := x2 _ e; omega, fun u hu => (by cases hu), fun j => Iff.rfl⟩, fun j hj => ?_, ?_⟩
  · have := blk_set k2 0 (.pointer (some ⟨t, 0, none⟩))
    exact this
  · obtain ⟨b1', b2', T1, T2, hst, hx⟩ := h3
    exact ⟨b1', b2', T1, T2, ⟨Nat.le_trans (by omega) hst.le, hst.blk, mapSt_baseIS hst.m1 (by omega), mapSt_baseSI hst.m2 (by omega), hst.n1, hst.n2, hst.ap, hst.t1, hst.t2, hst.h1, hst.h2, hst.nd⟩, hx⟩
  · exact ownMW_same m1 ((fs.block _ (by have := b2.size; omega) (by omega)).trans (b2.block _ (by omega)))
  · rcases hj with rfl | rfl | hj
    · omega
    · omega
    · have := x2 j hj; omega
  · have h5 := f1.below (B := w.heap.size) (Nat.le_refl _) fun _ _ e => e.elim
    exact (h5.trans (b2.mono (by omega))).trans (fs.below (by have := b2.size; omega) fun k _ e => by omega)
section
variable {base : Nat} {w : World} {l : Nat} {Y : Nat → Prop} {most : Int} {U : List WEnt}


set_option maxHeartbeats 1000000 in
theorem wisBy (h : WisAt base w l Y most U) (hU : U.length ≤ 100000) {n : List UInt8} (hn : n.length ≤ 1000) {E : List Int} (e1 : E.Pairwise (· < ·)) (e2 : ∀ a, a ∈ E ↔ (a, foldL n) ∈ U.map fkW) :
    Calls Tryz.prog 77 #[.pointer (some ⟨l, 0, none⟩), .string (bs n)] w (AllP E w) := by
  obtain ⟨t, b, X, T, h1, h2, h3, h4, h5, h6, h7, h8, h9, h10, h11⟩ := h
  have HR := Lib.hid (wisRel h4)
  have HT := Lib.hid (textW n w (by omega))
  have HH : Hid (∀ V, Below w.heap.size w V → Calls Tryz.prog 97 #[.pointer (some ⟨t, 0, none⟩), .string (bs (foldL n))] V (AllP E V)) := fun V hV => by
    obtain ⟨xs, y1, y2, _, y4⟩ := byAtIS (h5.below hV) (by simpa using hU) (okF hn)
    obtain rfl : xs = E := up_ext y1 e1 fun x => (y2 x).trans (e2 x).symm
    exact y4 V (Fr.refl _ _)
  clear h1 h2 h3 h4 h5 h6 h7 h8 h9 h10 h11
  go_enter Tryz.func77, Tryz.ntmps77
  go_wp2_with fail
  refine HR.out.mono ?_
  rintro e w1 ⟨rfl, rfl⟩
  go_wp2_with fail
  refine HT.out.mono ?_
  rintro e w2 ⟨rfl, b2⟩
  have B2 := Lib.hid b2
  clear b2
  go_wp2_with fail
  refine (HH.out w2 B2.out).mono ?_
  rintro e w3 ⟨⟨F, rfl, hT⟩, b3⟩
  have B3 := Lib.hid (And.intro hT b3)
  clear hT b3
  go_wp2_with fail
  go_ret
  obtain ⟨B, v, t0, t1, t2, t3, t4⟩ := B3.out.1
  have hz := B2.out.size
  exact ⟨⟨F, rfl, B, v, Nat.le_trans hz t0, t1, t2, t3, row_baseP t4 hz⟩, B2.out.trans (B3.out.2.mono hz)⟩
end
/-- what Add does -/
def AddWs (base l : Nat) (Y : Nat → Prop) (most : Int) (U : List WEnt) (a : Int) (n : List UInt8) (w : World) (e : Ending) (w' : World) : Prop :=
  ∃ Y' c U', e = .returned (.int .i64 c) ∧ (∀ j, Y' j → Y j ∨ w.heap.size ≤ j) ∧ Fr Y w w' ∧ WisAt base w' l Y' most U' ∧
    (U' = U ∧ (c = 6 ∧ (a, foldL n) ∈ U.map fkW ∨ c = 7 ∧ (a, foldL n) ∉ U.map fkW ∧ (∀ xs : List (List UInt8), xs.Pairwise (· < ·) → (∀ x, x ∈ xs ↔ (a, x) ∈ U.map fkW) → most ≤ xs.length)) ∨
     U' = U ++ [(a, n)] ∧ c = 0 ∧ (a, foldL n) ∉ U.map fkW ∧ (∀ xs : List (List UInt8), xs.Pairwise (· < ·) → (∀ x, x ∈ xs ↔ (a, x) ∈ U.map fkW) → (xs.length : Int) < most))
set_option maxRecDepth 100000 in
set_option maxHeartbeats 4000000 in
theorem wisAdd {base : Nat} {w : World} {l : Nat} {Y : Nat → Prop} {most : Int} {U : List WEnt} (h : WisAt base w l Y most U) (hbw : base ≤ w.heap.size) (hU : U.length ≤ 80000) {a : Int} (ha : OkKIS a) {n : List UInt8} (hn : n.length ≤ 1000) :
    Calls Tryz.prog 12 #[.pointer (some ⟨l, 0, none⟩), .int .i64 a, .string (bs n)] w (AddWs base l Y most U a n w) := by
  obtain ⟨t, b, X, T, h1, h2, h3, h4, h5, h6, h7, h8, h9, h10, h11⟩ := h
  have HT := Lib.hid (textW n w (by omega))
  have hlt := blk_lt h4
  have hbt := ownMW_lt h6
  have HH := Lib.hid (And.intro h1 (And.intro h2 (And.intro h3 (And.intro h4 (And.intro h5 (And.intro h6 (And.intro h7 (And.intro h8 (And.intro h9 (And.intro h10 h11))))))))))
  have HA := Lib.hid ha
  clear h1 h2 h3 h4 h5 h6 h7 h8 h9 h10 h11 ha
  go_enter Tryz.func12, Tryz.ntmps12
  go_wp2_with fail
  refine HT.out.mono ?_
  rintro e w1 ⟨rfl, b1⟩
  obtain ⟨h1, h2, h3, h4, h5, h6, h7, h8, h9, h10, h11⟩ := HH.out
  have f1 : Fr (fun _ => False) w w1 := Fr.of_below b1
  have k1 := f1.blk h4 fun e => e
  have HR := Lib.hid (wisRel k1)
  have hr1 := h5.fr f1 fun _ _ e => e
  have HAd := Lib.hid (relAddIS hr1 (Nat.le_trans hbw f1.size) (by simpa using (by omega : U.length ≤ 90000)) HA.out (okF hn))
  have H1 := Lib.hid (And.intro f1 (And.intro k1 (ownMW_same h6 (f1.block b hbt fun e => e))))
  clear h1 h2 h3 h4 h5 h6 h7 h8 h9 h10 h11 f1 k1 hr1 b1
  go_wp2_with fail
  refine HR.out.mono ?_
  rintro e w2 ⟨rfl, rfl⟩
  go_wp2_with fail
  refine HAd.out.mono ?_
  intro e w3 hA3
  obtain ⟨X', c, L', rfl, x3, f3, r3, q3⟩ := hA3.any
  obtain ⟨h1, h2, h3, h4, h5, h6, h7, h8, h9, h10, h11⟩ := HH.out
  obtain ⟨f1, k1, m1⟩ := H1.out
  have k3 := f3.blk k1 h8
  have m3 := ownMW_same m1 (f3.block b (ownMW_lt m1) h9)
  have hz1 := f1.size
  have nl : ¬ X' l := fun e => by rcases x3 l e with e | e; exact h8 e; omega
  have nb : ¬ X' b := fun e => by rcases x3 b e with e | e; exact h9 e; omega
  have hfX : Fr Y w w3 := (f1.mono (Y := Y) fun _ _ e => e.elim).trans3 f3 fun k _ e => (h11 k).2 (.inr (.inr e))
  rcases q3 with ⟨rfl, q3⟩ | ⟨rfl, rfl, q3, q4⟩
  · have hne : ¬ c = 0 := by rcases q3 with ⟨rfl, _⟩ | ⟨rfl, _⟩ <;> decide
    have hc0 : (c == 0) = false := by simpa using hne
    have HE : Hid (AddWs base l Y most U a n w (.returned (.int .i64 c)) w3) := ⟨fun j => j = l ∨ j = b ∨ X' j, c, U, rfl, fun j hj => by
      rcases hj with rfl | rfl | hj
      · exact .inl ((h11 _).2 (.inl rfl))
      · exact .inl ((h11 _).2 (.inr (.inl rfl)))
      · rcases x3 j hj with e | e
        · exact .inl ((h11 _).2 (.inr (.inr e)))
        · exact .inr (by omega), hfX, ⟨t, b, X', T, h1, h2, h3, k3, r3, m3, h7, nl, nb, h10, fun j => Iff.rfl⟩, .inl ⟨rfl, q3⟩⟩
    clear hA3 x3 f3 r3 q3 h1 h2 h3 h4 h5 h6 h7 h8 h9 h10 h11 f1 k1 m1 k3 m3 nl nb hfX hne
    go_wp2_with fail
    go_ret
    exact HE.out
  · have c1 := blk_cell k3 1
    have hkl : (Lit.int .i64 a).wf = true ∧ (foldL n).length ≤ maxLen := ⟨HA.out, okF hn⟩
    obtain ⟨w4, hp4, m4, f4⟩ := putW m3 ⟨(a, foldL n), hkl⟩ n (by omega) (Nat.le_trans h7.len (by omega))
    unfold kVW at hp4
    dsimp only at hp4
    have k4 := f4.blk k3 h3
    have r4 := r3.fr f4 fun j hj e => nb (e ▸ hj)
    have HE : Hid (AddWs base l Y most U a n w (.returned (.int .i64 0)) w4) := ⟨fun j => j = l ∨ j = b ∨ X' j, 0, U ++ [(a, n)], rfl, fun j hj => by
      rcases hj with rfl | rfl | hj
      · exact .inl ((h11 _).2 (.inl rfl))
      · exact .inl ((h11 _).2 (.inr (.inl rfl)))
      · rcases x3 j hj with e | e
        · exact .inl ((h11 _).2 (.inr (.inr e)))
        · exact .inr (by omega), hfX.trans3 f4 fun k _ e => (h11 k).2 (.inr (.inl e)), ⟨t, b, X', _, h1, h2, h3, k4, by rw [List.map_append]; exact r4, m4, h7.put (u := (a, n)) rfl q3, nl, nb, fun u hu => by
      rcases List.mem_append.1 hu with e | e
      · exact h10 u e
      · rw [List.mem_singleton.1 e]; exact ⟨HA.out, hn⟩, fun j => Iff.rfl⟩, .inr ⟨rfl, rfl, q3, q4⟩⟩
    clear hA3 x3 f3 r3 q3 q4 h1 h2 h3 h4 h5 h6 h7 h8 h9 h10 h11 f1 k1 m1 k3 m3 nl nb hfX m4 f4 k4 r4 hkl
    go_wp2_with fail
    go_ret
    exact HE.out
end Go.Proofs.YtpbobonddocgkaaGreatDoor
end
section
/- A range over a function that tells a row in whatever order (a map's entries): as RangeF, but for the order. -/
namespace Go.Proofs.YtpbobonddocgkaaGreatDoor
open Go Go.RowKit

/-- what a function that ranges is worth, if it tells xs in whatever order out of blocks Y -/
def SeqP {α : Type} (P : Program) (g : Nat) (lb : Array Value) (encs : α → Array Value) (Y : Nat → Prop) (xs : List α) (w : World) : Prop :=
  ∀ (l : Nat) (J Jx : List α → (Nat → Prop) → World → Prop) (X : Nat → Prop) (V : World), SameX Y w V → (∀ b, Y b → b < V.heap.size) → (∀ k, X k → k < V.heap.size ∧ ¬ Y k) → Stays J → Stays Jx →
    (∀ pre x r X1 V1, (pre ++ x :: r).Perm xs → GrowX X X1 V V1 → J pre X1 V1 → Fr X V V1 →
      YieldAt Fence.wide 0 P l (encs x) V1 fun e V' => ∃ X2, GrowX X1 X2 V1 V' ∧ Fr X1 V1 V' ∧ ((e = .returned (.bool true) ∧ J (pre ++ [x]) X2 V') ∨ (e = .returned (.bool false) ∧ Jx (pre ++ [x]) X2 V'))) →
    J [] X V → Calls P g (#[.func (.yield l) #[] #[]] ++ lb) V fun e V' => (∃ v, e = .returned v) ∧ ∃ X2, GrowX X X2 V V' ∧ Fr X V V' ∧ ((∃ ys, ys.Perm xs ∧ J ys X2 V') ∨ ∃ pre r, (pre ++ r).Perm xs ∧ Jx pre X2 V')
/-- the rounds, of whatever loop: what the function that ranges makes of them -/
theorem range_coreP {P : Program} {n : Nat} {α : Type} {ps : Array Tmp} {assign body : Code} {fn : Nat} {tmps : Array Value} {d gf l : Nat} {lb : Array Value} {Y X E : Nat → Prop} {encs : α → Array Value} {xs : List α} {w V1 : World}
    (I : List α → (Nat → Prop) → World → Prop) (Ix : Code → List α → (Nat → Prop) → World → Prop)
    (hseq : SeqP P gf lb encs Y xs w) (hX : ∀ k, X k → k < w.heap.size ∧ ¬ Y k) (hY : ∀ b, Y b → b < w.heap.size) (hps : ∀ x, (encs x).size = ps.size) (hI : Stays I) (hIx : ∀ c, Stays (Ix c)) (h0 : I [] X w)
    (hw : Fr (fun _ => False) w V1) (hl : w.heap.size ≤ l) (hE : ∀ k, E k → w.heap.size ≤ k ∧ k < V1.heap.size ∧ k ≠ l) (hr : V1.heap[l]? = some (.loop (recF fn tmps ps assign body d .ready none)))
    (hround : ∀ pre x r X1 V (K : Act → World → Prop) rb, (pre ++ x :: r).Perm xs → I pre X1 V → GrowX X X1 w V → (∀ k, X1 k → k ≠ l ∧ ¬ E k) → Fr X w V → l < V.heap.size →
      (∀ a1 Va, Fr (fun _ => False) V Va → (∀ Vb, Fr (fun k => k = l) V Vb → Vb.heap.size = Va.heap.size → (∀ k, k ≠ l → Vb.heap[k]? = Va.heap[k]?) → Vb.heap[l]? = some (.loop rb) → body.wpIn (Fence.wide.inRound l) n P (EndF l rb X1 I Ix (pre ++ [x]) V) a1 Vb) → K a1 Va) →
      assign.wpIn (Fence.wide.inRound l) n P (Exit.then K fun _ _ _ => False) { tmps := (ps.zip (encs x)).foldl (fun t (p, v) => t.setIfInBounds p v) tmps, defers := [] } V) :
    Calls P gf (#[.func (.yield l) #[] #[]] ++ lb) V1 fun e V2 => (∃ v, e = .returned v) ∧ ∃ X2, GrowX X X2 w V2 ∧ (∀ k, X2 k → k ≠ l ∧ ¬ E k) ∧ Fr X w V2 ∧ (∀ k, E k → V2.heap[k]? = V1.heap[k]?) ∧ l < V2.heap.size ∧
      ((∃ ys, ys.Perm xs ∧ I ys X2 V2 ∧ V2.heap[l]? = some (.loop (recF fn tmps ps assign body d .ready none))) ∨ ∃ pre r c, (pre ++ r).Perm xs ∧ Ix c pre X2 V2 ∧ V2.heap[l]? = some (.loop (recF fn tmps ps assign body d .done (some c)))) := by
  have hlV := blk_lt hr
  have key : ∀ (Q : List α → (Nat → Prop) → World → Prop) (o : Obj), Stays Q → Stays (fun pre X' V => ∃ X1, (∀ k, X' k ↔ (X1 k ∨ k = l ∨ E k)) ∧ Q pre X1 V ∧ V.heap[l]? = some o ∧ (∀ k, E k → V.heap[k]? = V1.heap[k]?) ∧ (∀ k, X1 k → k ≠ l ∧ ¬ E k)) := fun Q o hQ s X' V V' ⟨X1, h1, h2, h3, h4, h5⟩ hlt hf =>
    ⟨X1, h1, hQ s X1 V V' h2 (fun k hk => hlt k ((h1 k).2 (.inl hk))) (hf.mono fun k _ hn e => hn ((h1 k).2 (.inl e))), (hf.block l (blk_lt h3) (fun e => e ((h1 l).2 (.inr (.inl rfl))))).trans h3,
      fun k hk => (hf.block k (hlt k ((h1 k).2 (.inr (.inr hk)))) (fun e => e ((h1 k).2 (.inr (.inr hk))))).trans (h4 k hk), h5⟩
  have thru : ∀ {V2 : World}, Fr (fun k => X k ∨ k = l ∨ E k) V1 V2 → Fr X w V2 := fun hf => (hw.mono fun _ _ h => h.elim).trans3 hf fun k hk e => by
    rcases e with e | rfl | e
    · exact e
    · omega
    · have := (hE k e).1; omega
  have grow : ∀ {X' X1 : Nat → Prop} {V2 : World}, (∀ k, X' k ↔ (X1 k ∨ k = l ∨ E k)) → GrowX (fun k => X k ∨ k = l ∨ E k) X' V1 V2 → GrowX X X1 w V2 := fun h1 hg k hk => by
    have h2 := hg k ((h1 k).2 (.inl hk))
    refine ⟨h2.1, fun hlt => ?_⟩
    rcases h2.2 (Nat.lt_of_lt_of_le hlt hw.size) with e | rfl | e
    · exact e
    · omega
    · have := (hE k e).1; omega
  refine (hseq l (fun pre X' V => ∃ X1, (∀ k, X' k ↔ (X1 k ∨ k = l ∨ E k)) ∧ I pre X1 V ∧ V.heap[l]? = some (.loop (recF fn tmps ps assign body d .ready none)) ∧ (∀ k, E k → V.heap[k]? = V1.heap[k]?) ∧ (∀ k, X1 k → k ≠ l ∧ ¬ E k))
    (fun pre X' V => ∃ c, ∃ X1, (∀ k, X' k ↔ (X1 k ∨ k = l ∨ E k)) ∧ Ix c pre X1 V ∧ V.heap[l]? = some (.loop (recF fn tmps ps assign body d .done (some c))) ∧ (∀ k, E k → V.heap[k]? = V1.heap[k]?) ∧ (∀ k, X1 k → k ≠ l ∧ ¬ E k))
    (fun k => X k ∨ k = l ∨ E k) V1 (fun b hb => hw.block b (hY b hb) fun e => e) (fun b hb => Nat.lt_of_lt_of_le (hY b hb) hw.size) ?hX (key I _ hI) (fun s X' V V' ⟨c, h⟩ h1 h2 => ⟨c, key (Ix c) _ (hIx c) s X' V V' h h1 h2⟩) ?round
    ⟨X, fun k => Iff.rfl, hI [] X w V1 h0 (fun k hk => (hX k hk).1) (hw.mono fun _ _ h => h.elim), hr, fun _ _ => rfl, fun k hk => ⟨by have := (hX k hk).1; omega, fun e => by have := (hX k hk).1; have := (hE k e).1; omega⟩⟩).mono ?behind
  case hX =>
    rintro k (e | rfl | e)
    · exact ⟨Nat.lt_of_lt_of_le (hX k e).1 hw.size, (hX k e).2⟩
    · exact ⟨hlV, fun e => by have := hY _ e; omega⟩
    · exact ⟨(hE k e).2.1, fun e2 => by have := hY _ e2; have := (hE k e).1; omega⟩
  case behind =>
    rintro e V2 ⟨hv, X', hg, hf, (⟨ys, hys, X1, h1, h2, h3, h4, h5⟩ | ⟨pre, r, hpr, c, X1, h1, h2, h3, h4, h5⟩)⟩
    · exact ⟨hv, X1, grow h1 hg, h5, thru hf, h4, blk_lt h3, .inl ⟨ys, hys, h2, h3⟩⟩
    · exact ⟨hv, X1, grow h1 hg, h5, thru hf, h4, blk_lt h3, .inr ⟨pre, r, c, hpr, h2, h3⟩⟩
  case round =>
    rintro pre x r X' V hpx hgx ⟨X1, h1, h2, h3, h4, h5⟩ hfx
    have hy := run_yield (P := P) (args := encs x) h3 (by exact hps x)
    have hlv := blk_lt h3
    have hV1 := hfx.size
    obtain ⟨rb, hrb⟩ : ∃ rb : Loop, { recF fn tmps ps assign body d .ready none with state := .busy } = rb := ⟨_, rfl⟩
    refine ⟨fn, _, assign, body, hy, round_wide (n := n) (.inl rfl) (roundIn_of_wpIn (F := Fence.wide) trivial (hround pre x r X1 V _ rb hpx h2 (grow h1 hgx) h5 (thru hfx) hlv fun a1 Va hfa hbody => ⟨_, run_beginRound (hfa.blk h3 fun h => h) rfl, ?_⟩))⟩
    rw [hrb]
    have hla : l < Va.heap.size := Nat.lt_of_lt_of_le hlv hfa.size
    refine wpIn_mono (hbody (Va.putObj l (.loop rb)) (Fr.putObj (X := fun k => k = l) (hfa.mono fun _ _ h => h.elim) l rfl _) (putObj_size _ _ _) (fun k hk => World.putObj_heap_other hk) (World.putObj_heap_same hla)) ?_
    have fin : ∀ (Q : List α → (Nat → Prop) → World → Prop), Stays Q → ∀ {X2 : Nat → Prop} {V3 : World} (o : Obj), GrowX X1 X2 V V3 → Fr (fun k => k = l ∨ X1 k) V V3 → Q (pre ++ [x]) X2 V3 →
        GrowX X' (fun k => X2 k ∨ k = l ∨ E k) V (V3.putObj l o) ∧ Fr X' V (V3.putObj l o) ∧ ∃ X1', (∀ k, (X2 k ∨ k = l ∨ E k) ↔ (X1' k ∨ k = l ∨ E k)) ∧ Q (pre ++ [x]) X1' (V3.putObj l o) ∧ (V3.putObj l o).heap[l]? = some o ∧ (∀ k, E k → (V3.putObj l o).heap[k]? = V1.heap[k]?) ∧ (∀ k, X1' k → k ≠ l ∧ ¬ E k) := fun Q hQ X2 V3 o g2 f2 q2 => by
      have hl3 : l < V3.heap.size := Nat.lt_of_lt_of_le hlv f2.size
      have hEV : ∀ k, E k → k < V.heap.size := fun k hk => Nat.lt_of_lt_of_le (hE k hk).2.1 hV1
      have x2 : ∀ k, X2 k → k ≠ l ∧ ¬ E k := fun k hk => ⟨fun e => by subst e; exact (h5 _ ((g2 _ hk).2 hlv)).1 rfl, fun e => (h5 _ ((g2 _ hk).2 (hEV k e))).2 e⟩
      refine ⟨fun k hk => ?_, (f2.putObj l (.inl rfl) o).mono fun k _ e => ?_, X2, fun k => Iff.rfl, hQ _ X2 V3 _ q2 (fun k hk => (g2 k hk).1) ((Fr.refl _ V3).putObj l (fun e => (x2 l e).1 rfl) o), World.putObj_heap_same hl3, fun k hk => ?_, x2⟩
      · rw [putObj_size]
        rcases hk with hk | rfl | hk
        · exact ⟨(g2 k hk).1, fun hlt => (h1 k).2 (.inl ((g2 k hk).2 hlt))⟩
        · exact ⟨hl3, fun _ => (h1 _).2 (.inr (.inl rfl))⟩
        · exact ⟨Nat.lt_of_lt_of_le (hEV k hk) f2.size, fun _ => (h1 _).2 (.inr (.inr hk))⟩
      · rcases e with rfl | e
        · exact (h1 _).2 (.inr (.inl rfl))
        · exact (h1 _).2 (.inl e)
      · refine (World.putObj_heap_other (hE k hk).2.2).trans ((f2.block k (hEV k hk) ?_).trans (h4 k hk))
        rintro (e | e)
        · exact (hE k hk).2.2 e
        · exact (h5 k e).2 hk
    rintro e a3 V3 hp
    cases e with
    | normal =>
      obtain ⟨X2, g2, f2, r2, i2⟩ := hp
      have hend := run_endRound (P := P) none r2
      rw [← hrb] at hend
      obtain ⟨q1, q2, q3⟩ := fin I hI _ g2 f2 i2
      exact ⟨_, _, hend, _, q1, q2, .inl ⟨rfl, q3⟩⟩
    | ret =>
      obtain ⟨X2, g2, f2, r2, i2⟩ := hp
      have hend := run_endRound (P := P) (some .ret) r2
      rw [← hrb] at hend
      obtain ⟨q1, q2, q3⟩ := fin _ (hIx .ret) _ g2 f2 i2
      exact ⟨_, _, hend, _, q1, q2, .inr ⟨rfl, _, q3⟩⟩
    | exit id =>
      obtain ⟨X2, g2, f2, r2, i2⟩ := hp
      have hend := run_endRound (P := P) (some (.exit id)) r2
      rw [← hrb] at hend
      obtain ⟨q1, q2, q3⟩ := fin _ (hIx (.exit id)) _ g2 f2 i2
      exact ⟨_, _, hend, _, q1, q2, .inr ⟨rfl, _, q3⟩⟩
    | goto t =>
      obtain ⟨X2, g2, f2, r2, i2⟩ := hp
      have hend := run_endRound (P := P) (some (.goto t)) r2
      rw [← hrb] at hend
      obtain ⟨q1, q2, q3⟩ := fin _ (hIx (.goto t)) _ g2 f2 i2
      exact ⟨_, _, hend, _, q1, q2, .inr ⟨rfl, _, q3⟩⟩
    | panic ch => exact hp.elim
    | outgrown => exact hp.elim
/-- an outermost loop -/
theorem wpIn_rangeP {n : Nat} {P : Program} {w : World} {α : Type} {a : Act} {Q : Exit → Act → World → Prop} {g : Operand} {assign body : Code} {ps : Array Tmp} {gf : Nat} {lb : Array Value}
    {X Y : Nat → Prop} {encs : α → Array Value} {xs : List α} (I : List α → (Nat → Prop) → World → Prop) (Ix : Code → List α → (Nat → Prop) → World → Prop)
    (hg : a.eval g = .func (.func gf) #[] lb) (hseq : SeqP P gf lb encs Y xs w) (hX : ∀ k, X k → k < w.heap.size ∧ ¬ Y k) (hY : ∀ b, Y b → b < w.heap.size) (h1 : 1 ≤ n)
    (eg : ∀ args v, (callFunc gf args).run P v = .ok (.enter gf args) v) (hps : ∀ x, (encs x).size = ps.size) (hI : Stays I) (hIx : ∀ c, Stays (Ix c)) (h0 : I [] X w)
    (hround : ∀ l pre x r X1 V (K : Act → World → Prop) rb, w.heap.size ≤ l → (pre ++ x :: r).Perm xs → I pre X1 V → GrowX X X1 w V → ¬ X1 l → Fr X w V → l < V.heap.size →
      (∀ a1 Va, Fr (fun _ => False) V Va → (∀ Vb, Fr (fun k => k = l) V Vb → Vb.heap.size = Va.heap.size → (∀ k, k ≠ l → Vb.heap[k]? = Va.heap[k]?) → Vb.heap[l]? = some (.loop rb) → body.wpIn (Fence.wide.inRound l) (n - 1 - 1) P (EndF l rb X1 I Ix (pre ++ [x]) V) a1 Vb) → K a1 Va) →
      assign.wpIn (Fence.wide.inRound l) (n - 1 - 1) P (Exit.then K fun _ _ _ => False) { tmps := (ps.zip (encs x)).foldl (fun t (p, v) => t.setIfInBounds p v) a.tmps, defers := [] } V)
    (hdone : ∀ D ys X2 V, ys.Perm xs → w.heap.size ≤ D → ¬ X2 D → GrowX X X2 w V → Fr X w V → I ys X2 V → V.heap[D]? = some (.deferred (some [])) → Q .normal { a with defers := { target := .collected D, args := #[] } :: a.defers } V)
    (hstop : ∀ D c pre r X2 V, w.heap.size ≤ D → (pre ++ r).Perm xs → ¬ X2 D → GrowX X X2 w V → Fr X w V → Ix c pre X2 V → V.heap[D]? = some (.deferred (some [])) → c.wpIn Fence.wide n P Q { a with defers := { target := .collected D, args := #[] } :: a.defers } V) :
    (Code.rangeFunc g ps assign body).wpIn Fence.wide n P Q a w := by
  refine wpIn_rangeFunc fun fn hfn => ?_
  obtain ⟨V1, hV1⟩ : ∃ V1, (w.alloc (.deferred (some []))).alloc (.loop (recF fn a.tmps ps assign body w.heap.size .ready none)) = V1 := ⟨_, rfl⟩
  have hz : V1.heap.size = w.heap.size + 2 := by rw [← hV1]; simp
  have hr : V1.heap[w.heap.size + 1]? = some (.loop (recF fn a.tmps ps assign body w.heap.size .ready none)) := by
    subst hV1
    have h := World.alloc_heap_new (w.alloc (.deferred (some []))) (.loop (recF fn a.tmps ps assign body w.heap.size .ready none))
    rwa [World.size_alloc] at h
  have hd : V1.heap[w.heap.size]? = some (.deferred (some [])) := by
    subst hV1
    exact (Below.heap_alloc _ _ _ (by simp)).trans (World.alloc_heap_new w _)
  have hw : Fr (fun _ => False) w V1 := by subst hV1; exact ((Fr.refl _ w).alloc _).alloc _
  refine ⟨w.heap.size + 1, [{ target := .collected w.heap.size, args := #[] }], V1, { target := .fn (.func gf) lb, args := #[.func (.yield (w.heap.size + 1)) #[] #[]] }, V1, gf, #[.func (.yield (w.heap.size + 1)) #[] #[]] ++ lb, V1, ?_, ?_, ?_, ?_, fun _ => h1, ?_⟩
  · rw [← hV1]; exact run_enterLoop_outer _ _ _ _ _
  · simp only [resolve, hg]; simp [go_sem]
  · intro f' _; trivial
  · simp [invoke, go_sem, eg]
  refine (calls_wide (.inl rfl) (range_coreP (n := n - 1 - 1) (E := fun k => k = w.heap.size) I Ix hseq hX hY hps hI hIx h0 hw (by omega) (fun k hk => by subst hk; omega) hr
    (fun pre x r X1 V K rb h1 h2 h3 h4 h5 h6 h7 => hround (w.heap.size + 1) pre x r X1 V K rb (by omega) h1 h2 h3 (fun e => (h4 _ e).1 rfl) h5 h6 h7))).mono ?_
  rintro e V2 ⟨⟨v, rfl⟩, X2, g2, x2, f2, e2, l2, h⟩
  have hD : ∀ o, (V2.putObj (w.heap.size + 1) o).heap[w.heap.size]? = some (.deferred (some [])) := fun o => (World.putObj_heap_other (by omega)).trans ((e2 _ rfl).trans hd)
  have hput : ∀ o, Fr X w (V2.putObj (w.heap.size + 1) o) := fun o => f2.trans3 ((Fr.refl (fun k => k = w.heap.size + 1) V2).putObj _ rfl o) fun k hk e => by omega
  have hst : ∀ o, Fr (fun k => ¬ X2 k) V2 (V2.putObj (w.heap.size + 1) o) := fun o => (Fr.refl _ V2).putObj _ (fun e => (x2 _ e).1 rfl) o
  have hgr : ∀ o, GrowX X X2 w (V2.putObj (w.heap.size + 1) o) := fun o k hk => by rw [putObj_size]; exact g2 k hk
  rcases h with ⟨ys, hys, hi, hr2⟩ | ⟨pre, r, c, hpr, hi, hr2⟩
  · exact ⟨none, _, run_endLoop (P := P) hr2 (by simp [recF]), hdone _ ys X2 _ hys (Nat.le_refl _) (fun e => (x2 _ e).2 rfl) (hgr _) (hput _) (hI ys X2 V2 _ hi (fun k hk => (g2 k hk).1) (hst _)) (hD _)⟩
  · exact ⟨some c, _, run_endLoop (P := P) hr2 (by simp [recF]), hstop _ c pre r X2 _ (Nat.le_refl _) hpr (fun e => (x2 _ e).2 rfl) (hgr _) (hput _) (hIx c _ X2 V2 _ hi (fun k hk => (g2 k hk).1) (hst _)) (hD _)⟩
end Go.Proofs.YtpbobonddocgkaaGreatDoor
end
section
/- Layer 9, keys of kind int: the order of items; New, Set, At, Stop, Len. -/
namespace Go.Proofs.YtpbobonddocgkaaGreatDoor
open Go Go.RowKit Go.Maps

abbrev KeyI := Int
def kVI (k : KeyI) : Value := .int .i64 k
def kLI (k : KeyI) : Lit := (Lit.int .i64 k)
def vLI (v : Int) : DataW Unit := .lit (.int .i64 v)
/-- what may be a key; a time -/
def OkKI (k : KeyI) : Prop := (Lit.int .i64 k).wf = true
def OkTI (T : List (KeyI × Int)) : Prop := ∀ p ∈ T, OkKI p.1 ∧ (Lit.int .i64 p.2).wf = true
theorem kLI_inj : ∀ a b : KeyI, kLI a = kLI b → a = b := fun a b h => by simpa [kLI] using h
theorem vLI_inj : ∀ a b : Int, vLI a = vLI b → a = b := fun a b h => by simpa [vLI] using h
theorem kLI_key (k : KeyI) : WideAt.IsKeyLit (kLI k) := by simp [kLI, WideAt.IsKeyLit]
theorem keyedI : Keyed Tryz.prog 3 := int_keyed Tryz.underlying3
theorem keyOfI {k : KeyI} (h : OkKI k) : keyOf Tryz.prog 3 (kVI k) = some (kLI k) := keyOf_int_mk Tryz.underlying3 h
/-- block t is a table whose map is block b, with the entries T -/
def TabMI (w : World) (b : Nat) (T : List (KeyI × Int)) : Prop := ∃ D : DataW Unit, w.ownsMap Tryz.prog 3 (plainElem Tryz.prog 3) b T.length D ∧ MapHas kLI vLI D T ∧ OkTI T
def TabI (base : Nat) (w : World) (t b : Nat) (T : List (KeyI × Int)) : Prop := base ≤ t ∧ base ≤ b ∧ t ≠ b ∧ w.heap[t]? = some (.cells #[.map (some b)] 144 (0, 0)) ∧ TabMI w b T
theorem tabMI_lt {w : World} {b : Nat} {T : List (KeyI × Int)} (h : TabMI w b T) : b < w.heap.size := by
  obtain ⟨D, h1, _⟩ := h
  exact h1.lt
theorem owns_same {H : Type} {P : Program} {k : TypeId} {R : Value → Option (DataW H × List MemPlace)} {w w' : World} {b n : Nat} {D : DataW H} (h : w.ownsMap P k R b n D) (he : w'.heap[b]? = w.heap[b]?) : w'.ownsMap P k R b n D := by
  obtain ⟨es, clock, h1, h2⟩ := h
  exact ⟨es, clock, he.trans h1, h2⟩
theorem owns_tight {H : Type} {P : Program} {k : TypeId} {R : Value → Option (DataW H × List MemPlace)} {w : World} {b n : Nat} {D : DataW H} (h : w.ownsMap P k R b n D) : w.ownsMap P k R b (Maps.size D) D := by
  obtain ⟨es, clock, h1, h2, h3, rfl⟩ := h
  refine ⟨es, clock, h1, h2, ?_, rfl⟩
  rw [Maps.size_eq, length_sorted]; simp
theorem tabMI_same {w w' : World} {b : Nat} {T : List (KeyI × Int)} (h : TabMI w b T) (he : w'.heap[b]? = w.heap[b]?) : TabMI w' b T := by
  obtain ⟨D, h1, h2⟩ := h
  exact ⟨D, owns_same h1 he, h2⟩
theorem tabI_fr {base : Nat} {w w' : World} {t b : Nat} {T : List (KeyI × Int)} {X : Nat → Prop} (h : TabI base w t b T) (hf : Fr X w w') (h1 : ¬ X t) (h2 : ¬ X b) : TabI base w' t b T := by
  obtain ⟨a1, a2, a3, a4, a5⟩ := h
  exact ⟨a1, a2, a3, hf.blk a4 h1, tabMI_same a5 (hf.block b (tabMI_lt a5) h2)⟩
theorem tabI_below {base : Nat} {w w' : World} {t b : Nat} {T : List (KeyI × Int)} (h : TabI base w t b T) (hb : Below w.heap.size w w') : TabI base w' t b T := tabI_fr (X := fun _ => False) h (Fr.of_below hb) (fun e => e) fun e => e
theorem tabI_lt {base : Nat} {w : World} {t b : Nat} {T : List (KeyI × Int)} (h : TabI base w t b T) : t < w.heap.size ∧ b < w.heap.size := ⟨blk_lt h.2.2.2.1, tabMI_lt h.2.2.2.2⟩

/-- a table without keys -/
def NewPI (w : World) (e : Ending) (w' : World) : Prop := ∃ t b, e = .returned (.pointer (some ⟨t, 0, none⟩)) ∧ TabI w.heap.size w' t b [] ∧ Below w.heap.size w w'
set_option maxHeartbeats 1000000 in
theorem tim_newI (w : World) : Calls Tryz.prog 51 #[] w (NewPI w) := by
  have hmm := @run_makeMap Tryz.prog
  go_enter Tryz.func51, Tryz.ntmps51
  go_wp2_with fail
  go_ret
  refine ⟨_, _, rfl, ⟨by omega, Nat.le_refl _, by omega, ?_, ?_⟩, ((Below.refl _ _).alloc (Nat.le_refl _) _).alloc (by simp) _⟩
  · have := heap_alloc_new (w.alloc (Obj.map #[] 0)) (Obj.cells #[Value.map (some w.heap.size)] 144)
    rwa [World.size_alloc] at this
  · exact ⟨.map [], (World.ownsMap_made w _ _ _).alloc _, mapHas_empty _ _, fun p hp => by cases hp⟩
theorem len_noneI (p : Option Nat) (w : World) : (Builtin.len_ #[142] 3 #[.map none]).run Tryz.prog w = .ok (.int .i64 0) w := Maps.len_nil Tryz.underlying142 _


theorem tim_at_nilI (k : KeyI) (w : World) : Calls Tryz.prog 82 #[.pointer none, kVI k] w fun e w' => e = .returned (.tuple #[.int .i64 0, .bool false]) ∧ w' = w := by
  unfold kVI
  go_enter Tryz.func82, Tryz.ntmps82
  go_wp2_with fail
  go_ret2
  exact ⟨rfl, rfl⟩
theorem look_okI {w : World} {b : Nat} {T : List (KeyI × Int)} (h : TabMI w b T) {k : KeyI} (hk : OkKI k) : (Instr.lookup 142 (.map (some b)) (kVI k) true).run Tryz.prog w = .ok (.tuple #[.int .i64 ((lookM T k).getD 0), .bool (lookM T k).isSome]) w := by
  obtain ⟨D, a5, a6, a7⟩ := h
  have hz : (zeroValue 3).run Tryz.prog w = .ok (.int .i64 0) w := by kernel_rfl
  obtain ⟨v, ps, h1, h2⟩ := a5.look_ok keyedI Tryz.underlying142 hz (plainElem_int Tryz.underlying3 (by decide)) (keyOfI hk)
  obtain ⟨c, rfl, h3, h4⟩ := plainElem_int_inv Tryz.underlying3 h2
  rw [h1, a6.has_look kLI_inj]
  have h5 := (Prod.mk.inj h3).1
  rw [a6.look kLI_inj] at h5
  have h6 : c = (lookM T k).getD 0 := by
    cases hl : lookM T k with
    | none => rw [hl] at h5; simp at h5; simp [h5]
    | some v => rw [hl] at h5; simp [vLI] at h5; simp [h5]
  rw [h6]
set_option maxHeartbeats 1000000 in
theorem tim_atI {base : Nat} {w : World} {t b : Nat} {T : List (KeyI × Int)} (h : TabI base w t b T) {k : KeyI} (hk : OkKI k) : Calls Tryz.prog 82 #[.pointer (some ⟨t, 0, none⟩), kVI k] w fun e w' => e = .returned (.tuple #[.int .i64 ((lookM T k).getD 0), .bool (lookM T k).isSome]) ∧ w' = w := by
  obtain ⟨a1, a2, a3, a4, a5⟩ := h
  have c0 := blk_cell a4 0
  have hl := look_okI a5 hk
  obtain ⟨n, hn⟩ : ∃ n, (lookM T k).getD 0 = n := ⟨_, rfl⟩
  obtain ⟨i, hi⟩ : ∃ i, (lookM T k).isSome = i := ⟨_, rfl⟩
  rw [hn, hi] at hl ⊢
  clear a1 a2 a3 a4 a5 hn hi
  unfold kVI at *
  go_enter Tryz.func82, Tryz.ntmps82
  go_wp2_with fail
  go_ret2
  exact ⟨rfl, rfl⟩
theorem tim_set_nilI (k : KeyI) (v : Int) (w : World) : Calls Tryz.prog 56 #[.pointer none, kVI k, .int .i64 v] w fun e w' => e = .returned (.tuple #[]) ∧ w' = w := by
  unfold kVI
  go_enter Tryz.func56, Tryz.ntmps56
  go_wp2_with fail
  refine bodyPost_ret (results_none rfl _ _ _) rfl ?_
  exact ⟨rfl, rfl⟩
theorem okT_setI {T : List (KeyI × Int)} (h : OkTI T) {k : KeyI} {v : Int} (hk : OkKI k) (hv : (Lit.int .i64 v).wf = true) : OkTI (setM T k v) := fun p hp => by
  unfold setM at hp
  rw [List.mem_append] at hp
  rcases hp with hp | hp
  · exact h p (List.mem_filter.1 hp).1
  · simp at hp; subst hp; exact ⟨hk, hv⟩
theorem okT_delI {T : List (KeyI × Int)} (h : OkTI T) (k : KeyI) : OkTI (delM T k) := fun p hp => h p (List.mem_filter.1 hp).1
set_option maxHeartbeats 1000000 in
theorem tim_setI {base : Nat} {w : World} {t b : Nat} {T : List (KeyI × Int)} (h : TabI base w t b T) {k : KeyI} {v : Int} (hk : OkKI k) (hv : (Lit.int .i64 v).wf = true) (hl : T.length ≤ 1000000) :
    Calls Tryz.prog 56 #[.pointer (some ⟨t, 0, none⟩), kVI k, .int .i64 v] w fun e w' => e = .returned (.tuple #[]) ∧ TabI base w' t b (setM T k v) ∧ Fr (fun j => j = b) w w' := by
  obtain ⟨a1, a2, a3, a4, D, a5, a6, a7⟩ := h
  have c0 := blk_cell a4 0
  have hnil := run_eql_map_nil (P := Tryz.prog) w 142 3 3 (some b) Tryz.underlying142
  obtain ⟨w', h1, h2, h3⟩ := a5.update keyedI Tryz.underlying142 (by unfold maxLen; omega) (keyOfI hk) (plainElem_int Tryz.underlying3 hv)
  have hf : Fr (fun j => j = b) w w' := (Fr.refl _ w).grown h3 fun j e => by cases e; exact .inr rfl
  have h6 := a6.put kLI_inj (a5.tidy keyedI) k (kLI_key k) v
  have h4 : TabI base w' t b (setM T k v) := ⟨a1, a2, a3, hf.blk a4 a3, _, by rw [← h6.size]; exact owns_tight h2, h6, okT_setI a7 hk hv⟩
  have H := Lib.hid (And.intro h4 hf)
  clear a1 a2 a3 a4 a5 a6 a7 h2 h3 hf h4 h6
  unfold kVI at *
  go_enter Tryz.func56, Tryz.ntmps56
  go_wp2_with fail
  go_end0
  exact ⟨rfl, H.out⟩
theorem tim_stop_nilI (k : KeyI) (w : World) : Calls Tryz.prog 74 #[.pointer none, kVI k] w fun e w' => e = .returned (.bool false) ∧ w' = w := by
  have h1 := tim_at_nilI k w
  unfold kVI at *
  go_enter Tryz.func74, Tryz.ntmps74
  go_wp2_with fail
  refine h1.mono ?_
  rintro e w' ⟨rfl, rfl⟩
  go_wp2_with fail
  go_ret
  exact ⟨rfl, rfl⟩
theorem lookM_noneT {α β : Type} [DecidableEq α] {T : List (α × β)} {k : α} (h : (lookM T k).isSome = false) : delM T k = T := by
  unfold delM
  rw [List.filter_eq_self]
  intro p hp
  simp
  rintro rfl
  unfold lookM at h
  rw [Option.isSome_map] at h
  cases hf : T.find? fun q => decide (q.1 = p.1) with
  | none => rw [List.find?_eq_none] at hf; exact absurd (hf p hp) (by simp)
  | some x => rw [hf] at h; cases h
set_option maxHeartbeats 1000000 in
theorem tim_stopI {base : Nat} {w : World} {t b : Nat} {T : List (KeyI × Int)} (h : TabI base w t b T) {k : KeyI} (hk : OkKI k) :
    Calls Tryz.prog 74 #[.pointer (some ⟨t, 0, none⟩), kVI k] w fun e w' => e = .returned (.bool (lookM T k).isSome) ∧ TabI base w' t b (delM T k) ∧ Fr (fun j => j = b) w w' := by
  have ha := tim_atI h hk
  have hh := h
  obtain ⟨a1, a2, a3, a4, D, a5, a6, a7⟩ := h
  have c0 := blk_cell a4 0
  obtain ⟨w', h1, h2, h3⟩ := a5.drop keyedI Tryz.underlying142 (keyOfI hk) 0
  have hf : Fr (fun j => j = b) w w' := (Fr.refl _ w).grown h3.grown fun j e => by cases e; exact .inr rfl
  have h6 := a6.del kLI_inj (a5.tidy keyedI) k
  have h4 : TabI base w' t b (delM T k) := ⟨a1, a2, a3, hf.blk a4 a3, _, by rw [← h6.size]; exact owns_tight h2, h6, okT_delI a7 k⟩
  obtain ⟨n, hn⟩ : ∃ n, (lookM T k).getD 0 = n := ⟨_, rfl⟩
  obtain ⟨i, hi⟩ : ∃ i, (lookM T k).isSome = i := ⟨_, rfl⟩
  rw [hn, hi] at ha
  rw [hi]
  have H := Lib.hid (And.intro h4 (And.intro hf (And.intro hi hh)))
  have HA := Lib.hid ha
  clear a1 a2 a3 a4 a5 a6 a7 h2 h3 hf h4 h6 hn hi ha hh
  unfold kVI at *
  go_enter Tryz.func74, Tryz.ntmps74
  go_wp2_with fail
  refine HA.out.mono ?_
  rintro e w2 ⟨rfl, rfl⟩
  cases i with
  | true =>
    go_wp2_with fail
    go_ret
    exact ⟨rfl, H.out.1, H.out.2.1⟩
  | false =>
    go_wp2_with fail
    go_ret
    exact ⟨rfl, by rw [lookM_noneT H.out.2.2.1]; exact H.out.2.2.2, Fr.refl _ _⟩
end Go.Proofs.YtpbobonddocgkaaGreatDoor
end
