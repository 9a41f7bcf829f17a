/- Layer 2: a book of string: its map. -/
import Derived.Test.YtfdaeajafmcjcaaBokK
namespace Go.Proofs.Ytfdaeajafmcjcaa
set_option linter.unusedVariables false
set_option linter.unusedSimpArgs false
open Go Go.RowKit Go.Maps

abbrev VS := ByteArray
def thVS (v : VS) : Value := .string v
def OkVS (v : VS) : Prop := v.size ≤ 1000000
def valES (e : Ent VS) : Value := .agg #[.string e.name, .string (bs e.fold), thVS e.thing]
def evES (e : Ent VS) : DataW Unit := .agg [.lit (.string e.name.data.toList), .lit (.string e.fold), .lit (.string e.thing.data.toList)]
theorem valES_inj {a b : Ent VS} (h : valES a = valES b) : a = b := by
  obtain ⟨n, f, t⟩ := a
  obtain ⟨n2, f2, t2⟩ := b
  unfold valES thVS at h
  simp only [Value.agg.injEq] at h
  have h' := congrArg Array.toList h
  simp only [List.cons.injEq, Value.string.injEq, Value.int.injEq, Value.bool.injEq, and_true, true_and] at h'
  obtain ⟨h1, h2, h3⟩ := h'
  have h2 := bs_inj h2
  subst h1; subst h2; subst h3; rfl
open Classical in
/-- how an entry reads -/
noncomputable def readES (v : Value) : Option (DataW Unit × List MemPlace) := if h : ∃ e, v = valES e then some (evES h.choose, []) else none
theorem readES_val (e : Ent VS) : readES (valES e) = some (evES e, []) := by
  have h : ∃ e2, valES e = valES e2 := ⟨e, rfl⟩
  unfold readES
  rw [dif_pos h, ← valES_inj h.choose_spec]
theorem evES_inj : ∀ a b : Ent VS, evES a = evES b → a = b := fun a b h => by
  obtain ⟨n, f, t⟩ := a
  obtain ⟨n2, f2, t2⟩ := b
  simp only [evES, DataW.agg.injEq, List.cons.injEq, DataW.lit.injEq, Lit.string.injEq, Lit.string.injEq, and_true, true_and] at h
  obtain ⟨h1, h2, h3⟩ := h
  have h1 := ba_ext h1
  have h3 := ba_ext h3
  subst h1; subst h2; subst h3; rfl
theorem readES_inv {v : Value} {z : DataW Unit × List MemPlace} (h : readES v = some z) : ∃ e, v = valES e ∧ z = (evES e, []) := by
  unfold readES at h
  split at h
  · rename_i hx
    cases h
    exact ⟨_, hx.choose_spec, rfl⟩
  · cases h
def zeroES : Ent VS := ⟨⟨#[]⟩, [], ⟨#[]⟩⟩
/-- block b is the map of a book with these entries -/
def OkTSB (T : List (KeyB × Ent VS)) : Prop := ∀ p ∈ T, OkKB p.1 ∧ p.2.fold = p.1 ∧ foldL p.2.name.data.toList = p.1 ∧ p.2.name.size ≤ 1000000 ∧ OkVS p.2.thing
def MapBS (w : World) (b : Nat) (T : List (KeyB × Ent VS)) : Prop := ∃ D : DataW Unit, w.ownsMap Try.prog 9 readES b T.length D ∧ MapHas kLB evES D T ∧ OkTSB T
/-- block t is a book for 'most' entries whose map is block b -/
def BokS (base : Nat) (w : World) (t b : Nat) (most : Int) (T : List (KeyB × Ent VS)) : Prop := base ≤ t ∧ base ≤ b ∧ t ≠ b ∧ w.heap[t]? = some (.cells #[.int .i64 most, .map (some b)] 81 (0, 0)) ∧ MapBS w b T
theorem mapBS_lt {w : World} {b : Nat} {T : List (KeyB × Ent VS)} (h : MapBS w b T) : b < w.heap.size := by
  obtain ⟨D, h1, _⟩ := h
  exact h1.lt
theorem mapBS_same {w w' : World} {b : Nat} {T : List (KeyB × Ent VS)} (h : MapBS w b T) (he : w'.heap[b]? = w.heap[b]?) : MapBS w' b T := by
  obtain ⟨D, h1, h2, h3⟩ := h
  exact ⟨D, ownsB_same h1 he, h2, h3⟩
theorem bokS_fr {base : Nat} {w w' : World} {t b : Nat} {most : Int} {T : List (KeyB × Ent VS)} {X : Nat → Prop} (h : BokS base w t b most T) (hf : Fr X w w') (h1 : ¬ X t) (h2 : ¬ X b) : BokS base w' t b most T :=
  ⟨h.1, h.2.1, h.2.2.1, hf.blk h.2.2.2.1 h1, mapBS_same h.2.2.2.2 (hf.block b (mapBS_lt h.2.2.2.2) h2)⟩
theorem bokS_below {base : Nat} {w w' : World} {t b : Nat} {most : Int} {T : List (KeyB × Ent VS)} (h : BokS base w t b most T) (hb : Below w.heap.size w w') : BokS base w' t b most T := bokS_fr (X := fun _ => False) h (Fr.of_below hb) (fun e => e) fun e => e
theorem bokS_lt {base : Nat} {w : World} {t b : Nat} {most : Int} {T : List (KeyB × Ent VS)} (h : BokS base w t b most T) : t < w.heap.size ∧ b < w.heap.size := ⟨blk_lt h.2.2.2.1, mapBS_lt h.2.2.2.2⟩
theorem okTSB_set {T : List (KeyB × Ent VS)} (h : OkTSB T) {name : ByteArray} {v : VS} (hn : name.size ≤ 1000000) (hv : OkVS v) : OkTSB (setM T (foldL name.data.toList) ⟨name, foldL name.data.toList, v⟩) := fun p hp => by
  unfold setM at hp
  rw [List.mem_append] at hp
  rcases hp with hp | hp
  · exact h p (List.mem_filter.1 hp).1
  · simp at hp; subst hp; exact ⟨fold_ok name hn, rfl, rfl, hn, hv⟩
theorem okTSB_del {T : List (KeyB × Ent VS)} (h : OkTSB T) (k : KeyB) : OkTSB (delM T k) := fun p hp => h p (List.mem_filter.1 hp).1
theorem lookBS {w : World} {b : Nat} {T : List (KeyB × Ent VS)} (h : MapBS w b T) {k : KeyB} (hk : OkKB k) : (Instr.lookup 79 (.map (some b)) (kVB k) true).run Try.prog w = .ok (.tuple #[valES ((lookM T k).getD zeroES), .bool (lookM T k).isSome]) w := by
  obtain ⟨D, a5, a6, a7⟩ := h
  have hz : (zeroValue 83).run Try.prog w = .ok (valES zeroES) w := by kernel_rfl
  obtain ⟨v, ps, h1, h2⟩ := a5.look_ok keyedB Try.underlying79 hz (readES_val zeroES) (keyOfB hk)
  obtain ⟨c, rfl, h3⟩ := readES_inv h2
  rw [h1, a6.has_look kLB_inj]
  have h5 := (Prod.mk.inj h3).1
  rw [a6.look kLB_inj] at h5
  have h6 : c = (lookM T k).getD zeroES := by
    cases hl : lookM T k with
    | none => rw [hl] at h5; exact (evES_inj _ _ h5).symm
    | some v => rw [hl] at h5; exact (evES_inj _ _ h5).symm
  rw [h6]
end Go.Proofs.Ytfdaeajafmcjcaa
