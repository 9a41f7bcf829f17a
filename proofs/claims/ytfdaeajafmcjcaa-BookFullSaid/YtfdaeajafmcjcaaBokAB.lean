/- Layer 2: a book of bool: its map. -/
import Derived.Test.YtfdaeajafmcjcaaBokK
namespace Go.Proofs.Ytfdaeajafmcjcaa
set_option linter.unusedVariables false
set_option linter.unusedSimpArgs false
open Go Go.RowKit Go.Maps

abbrev VB := Bool
def thVB (v : VB) : Value := .bool v
def OkVB (v : VB) : Prop := v = v
def valEB (e : Ent VB) : Value := .agg #[.string e.name, .string (bs e.fold), thVB e.thing]
def evEB (e : Ent VB) : DataW Unit := .agg [.lit (.string e.name.data.toList), .lit (.string e.fold), .lit (.bool (e.thing))]
theorem valEB_inj {a b : Ent VB} (h : valEB a = valEB b) : a = b := by
  obtain ⟨n, f, t⟩ := a
  obtain ⟨n2, f2, t2⟩ := b
  unfold valEB thVB at h
  simp only [Value.agg.injEq] at h
  have h' := congrArg Array.toList h
  simp only [List.cons.injEq, Value.string.injEq, Value.int.injEq, Value.bool.injEq, and_true, true_and] at h'
  obtain ⟨h1, h2, h3⟩ := h'
  have h2 := bs_inj h2
  subst h1; subst h2; subst h3; rfl
open Classical in
/-- how an entry reads -/
noncomputable def readEB (v : Value) : Option (DataW Unit × List MemPlace) := if h : ∃ e, v = valEB e then some (evEB h.choose, []) else none
theorem readEB_val (e : Ent VB) : readEB (valEB e) = some (evEB e, []) := by
  have h : ∃ e2, valEB e = valEB e2 := ⟨e, rfl⟩
  unfold readEB
  rw [dif_pos h, ← valEB_inj h.choose_spec]
theorem evEB_inj : ∀ a b : Ent VB, evEB a = evEB b → a = b := fun a b h => by
  obtain ⟨n, f, t⟩ := a
  obtain ⟨n2, f2, t2⟩ := b
  simp only [evEB, DataW.agg.injEq, List.cons.injEq, DataW.lit.injEq, Lit.string.injEq, Lit.bool.injEq, and_true, true_and] at h
  obtain ⟨h1, h2, h3⟩ := h
  have h1 := ba_ext h1
  skip
  subst h1; subst h2; subst h3; rfl
theorem readEB_inv {v : Value} {z : DataW Unit × List MemPlace} (h : readEB v = some z) : ∃ e, v = valEB e ∧ z = (evEB e, []) := by
  unfold readEB at h
  split at h
  · rename_i hx
    cases h
    exact ⟨_, hx.choose_spec, rfl⟩
  · cases h
def zeroEB : Ent VB := ⟨⟨#[]⟩, [], false⟩
/-- block b is the map of a book with these entries -/
def OkTBB (T : List (KeyB × Ent VB)) : Prop := ∀ p ∈ T, OkKB p.1 ∧ p.2.fold = p.1 ∧ foldL p.2.name.data.toList = p.1 ∧ p.2.name.size ≤ 1000000 ∧ OkVB p.2.thing
def MapBB (w : World) (b : Nat) (T : List (KeyB × Ent VB)) : Prop := ∃ D : DataW Unit, w.ownsMap Try.prog 9 readEB b T.length D ∧ MapHas kLB evEB D T ∧ OkTBB T
/-- block t is a book for 'most' entries whose map is block b -/
def BokB (base : Nat) (w : World) (t b : Nat) (most : Int) (T : List (KeyB × Ent VB)) : Prop := base ≤ t ∧ base ≤ b ∧ t ≠ b ∧ w.heap[t]? = some (.cells #[.int .i64 most, .map (some b)] 91 (0, 0)) ∧ MapBB w b T
theorem mapBB_lt {w : World} {b : Nat} {T : List (KeyB × Ent VB)} (h : MapBB w b T) : b < w.heap.size := by
  obtain ⟨D, h1, _⟩ := h
  exact h1.lt
theorem mapBB_same {w w' : World} {b : Nat} {T : List (KeyB × Ent VB)} (h : MapBB w b T) (he : w'.heap[b]? = w.heap[b]?) : MapBB w' b T := by
  obtain ⟨D, h1, h2, h3⟩ := h
  exact ⟨D, ownsB_same h1 he, h2, h3⟩
theorem bokB_fr {base : Nat} {w w' : World} {t b : Nat} {most : Int} {T : List (KeyB × Ent VB)} {X : Nat → Prop} (h : BokB base w t b most T) (hf : Fr X w w') (h1 : ¬ X t) (h2 : ¬ X b) : BokB base w' t b most T :=
  ⟨h.1, h.2.1, h.2.2.1, hf.blk h.2.2.2.1 h1, mapBB_same h.2.2.2.2 (hf.block b (mapBB_lt h.2.2.2.2) h2)⟩
theorem bokB_below {base : Nat} {w w' : World} {t b : Nat} {most : Int} {T : List (KeyB × Ent VB)} (h : BokB base w t b most T) (hb : Below w.heap.size w w') : BokB base w' t b most T := bokB_fr (X := fun _ => False) h (Fr.of_below hb) (fun e => e) fun e => e
theorem bokB_lt {base : Nat} {w : World} {t b : Nat} {most : Int} {T : List (KeyB × Ent VB)} (h : BokB base w t b most T) : t < w.heap.size ∧ b < w.heap.size := ⟨blk_lt h.2.2.2.1, mapBB_lt h.2.2.2.2⟩
theorem okTBB_set {T : List (KeyB × Ent VB)} (h : OkTBB T) {name : ByteArray} {v : VB} (hn : name.size ≤ 1000000) (hv : OkVB v) : OkTBB (setM T (foldL name.data.toList) ⟨name, foldL name.data.toList, v⟩) := fun p hp => by
  unfold setM at hp
  rw [List.mem_append] at hp
  rcases hp with hp | hp
  · exact h p (List.mem_filter.1 hp).1
  · simp at hp; subst hp; exact ⟨fold_ok name hn, rfl, rfl, hn, hv⟩
theorem okTBB_del {T : List (KeyB × Ent VB)} (h : OkTBB T) (k : KeyB) : OkTBB (delM T k) := fun p hp => h p (List.mem_filter.1 hp).1
theorem lookBB {w : World} {b : Nat} {T : List (KeyB × Ent VB)} (h : MapBB w b T) {k : KeyB} (hk : OkKB k) : (Instr.lookup 89 (.map (some b)) (kVB k) true).run Try.prog w = .ok (.tuple #[valEB ((lookM T k).getD zeroEB), .bool (lookM T k).isSome]) w := by
  obtain ⟨D, a5, a6, a7⟩ := h
  have hz : (zeroValue 93).run Try.prog w = .ok (valEB zeroEB) w := by kernel_rfl
  obtain ⟨v, ps, h1, h2⟩ := a5.look_ok keyedB Try.underlying89 hz (readEB_val zeroEB) (keyOfB hk)
  obtain ⟨c, rfl, h3⟩ := readEB_inv h2
  rw [h1, a6.has_look kLB_inj]
  have h5 := (Prod.mk.inj h3).1
  rw [a6.look kLB_inj] at h5
  have h6 : c = (lookM T k).getD zeroEB := by
    cases hl : lookM T k with
    | none => rw [hl] at h5; exact (evEB_inj _ _ h5).symm
    | some v => rw [hl] at h5; exact (evEB_inj _ _ h5).symm
  rw [h6]
end Go.Proofs.Ytfdaeajafmcjcaa
