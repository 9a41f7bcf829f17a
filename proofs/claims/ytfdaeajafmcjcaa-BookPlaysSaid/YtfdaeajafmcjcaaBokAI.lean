/- Layer 2: a book of int: its map. -/
import Derived.Test.YtfdaeajafmcjcaaBokK
namespace Go.Proofs.Ytfdaeajafmcjcaa
set_option linter.unusedVariables false
set_option linter.unusedSimpArgs false
open Go Go.RowKit Go.Maps

abbrev VI := Int
def thVI (v : VI) : Value := .int .i64 v
def OkVI (v : VI) : Prop := (Lit.int .i64 v).wf = true
def valEI (e : Ent VI) : Value := .agg #[.string e.name, .string (bs e.fold), thVI e.thing]
def evEI (e : Ent VI) : DataW Unit := .agg [.lit (.string e.name.data.toList), .lit (.string e.fold), .lit (.int .i64 (e.thing))]
theorem valEI_inj {a b : Ent VI} (h : valEI a = valEI b) : a = b := by
  obtain ⟨n, f, t⟩ := a
  obtain ⟨n2, f2, t2⟩ := b
  unfold valEI thVI at h
  simp only [Value.agg.injEq] at h
  have h' := congrArg Array.toList h
  simp only [List.cons.injEq, Value.string.injEq, Value.int.injEq, Value.bool.injEq, and_true, true_and] at h'
  obtain ⟨h1, h2, h3⟩ := h'
  have h2 := bs_inj h2
  subst h1; subst h2; subst h3; rfl
open Classical in
/-- how an entry reads -/
noncomputable def readEI (v : Value) : Option (DataW Unit × List MemPlace) := if h : ∃ e, v = valEI e then some (evEI h.choose, []) else none
theorem readEI_val (e : Ent VI) : readEI (valEI e) = some (evEI e, []) := by
  have h : ∃ e2, valEI e = valEI e2 := ⟨e, rfl⟩
  unfold readEI
  rw [dif_pos h, ← valEI_inj h.choose_spec]
theorem evEI_inj : ∀ a b : Ent VI, evEI a = evEI b → a = b := fun a b h => by
  obtain ⟨n, f, t⟩ := a
  obtain ⟨n2, f2, t2⟩ := b
  simp only [evEI, DataW.agg.injEq, List.cons.injEq, DataW.lit.injEq, Lit.string.injEq, Lit.int.injEq, and_true, true_and] at h
  obtain ⟨h1, h2, h3⟩ := h
  have h1 := ba_ext h1
  skip
  subst h1; subst h2; subst h3; rfl
theorem readEI_inv {v : Value} {z : DataW Unit × List MemPlace} (h : readEI v = some z) : ∃ e, v = valEI e ∧ z = (evEI e, []) := by
  unfold readEI at h
  split at h
  · rename_i hx
    cases h
    exact ⟨_, hx.choose_spec, rfl⟩
  · cases h
def zeroEI : Ent VI := ⟨⟨#[]⟩, [], 0⟩
/-- block b is the map of a book with these entries -/
def OkTIB (T : List (KeyB × Ent VI)) : Prop := ∀ p ∈ T, OkKB p.1 ∧ p.2.fold = p.1 ∧ foldL p.2.name.data.toList = p.1 ∧ p.2.name.size ≤ 1000000 ∧ OkVI p.2.thing
def MapBI (w : World) (b : Nat) (T : List (KeyB × Ent VI)) : Prop := ∃ D : DataW Unit, w.ownsMap Try.prog 9 readEI b T.length D ∧ MapHas kLB evEI D T ∧ OkTIB T
/-- block t is a book for 'most' entries whose map is block b -/
def BokI (base : Nat) (w : World) (t b : Nat) (most : Int) (T : List (KeyB × Ent VI)) : Prop := base ≤ t ∧ base ≤ b ∧ t ≠ b ∧ w.heap[t]? = some (.cells #[.int .i64 most, .map (some b)] 68 (0, 0)) ∧ MapBI w b T
theorem mapBI_lt {w : World} {b : Nat} {T : List (KeyB × Ent VI)} (h : MapBI w b T) : b < w.heap.size := by
  obtain ⟨D, h1, _⟩ := h
  exact h1.lt
theorem mapBI_same {w w' : World} {b : Nat} {T : List (KeyB × Ent VI)} (h : MapBI w b T) (he : w'.heap[b]? = w.heap[b]?) : MapBI w' b T := by
  obtain ⟨D, h1, h2, h3⟩ := h
  exact ⟨D, ownsB_same h1 he, h2, h3⟩
theorem bokI_fr {base : Nat} {w w' : World} {t b : Nat} {most : Int} {T : List (KeyB × Ent VI)} {X : Nat → Prop} (h : BokI base w t b most T) (hf : Fr X w w') (h1 : ¬ X t) (h2 : ¬ X b) : BokI base w' t b most T :=
  ⟨h.1, h.2.1, h.2.2.1, hf.blk h.2.2.2.1 h1, mapBI_same h.2.2.2.2 (hf.block b (mapBI_lt h.2.2.2.2) h2)⟩
theorem bokI_below {base : Nat} {w w' : World} {t b : Nat} {most : Int} {T : List (KeyB × Ent VI)} (h : BokI base w t b most T) (hb : Below w.heap.size w w') : BokI base w' t b most T := bokI_fr (X := fun _ => False) h (Fr.of_below hb) (fun e => e) fun e => e
theorem bokI_lt {base : Nat} {w : World} {t b : Nat} {most : Int} {T : List (KeyB × Ent VI)} (h : BokI base w t b most T) : t < w.heap.size ∧ b < w.heap.size := ⟨blk_lt h.2.2.2.1, mapBI_lt h.2.2.2.2⟩
theorem okTIB_set {T : List (KeyB × Ent VI)} (h : OkTIB T) {name : ByteArray} {v : VI} (hn : name.size ≤ 1000000) (hv : OkVI v) : OkTIB (setM T (foldL name.data.toList) ⟨name, foldL name.data.toList, v⟩) := fun p hp => by
  unfold setM at hp
  rw [List.mem_append] at hp
  rcases hp with hp | hp
  · exact h p (List.mem_filter.1 hp).1
  · simp at hp; subst hp; exact ⟨fold_ok name hn, rfl, rfl, hn, hv⟩
theorem okTIB_del {T : List (KeyB × Ent VI)} (h : OkTIB T) (k : KeyB) : OkTIB (delM T k) := fun p hp => h p (List.mem_filter.1 hp).1
theorem lookBI {w : World} {b : Nat} {T : List (KeyB × Ent VI)} (h : MapBI w b T) {k : KeyB} (hk : OkKB k) : (Instr.lookup 66 (.map (some b)) (kVB k) true).run Try.prog w = .ok (.tuple #[valEI ((lookM T k).getD zeroEI), .bool (lookM T k).isSome]) w := by
  obtain ⟨D, a5, a6, a7⟩ := h
  have hz : (zeroValue 70).run Try.prog w = .ok (valEI zeroEI) w := by kernel_rfl
  obtain ⟨v, ps, h1, h2⟩ := a5.look_ok keyedB Try.underlying66 hz (readEI_val zeroEI) (keyOfB hk)
  obtain ⟨c, rfl, h3⟩ := readEI_inv h2
  rw [h1, a6.has_look kLB_inj]
  have h5 := (Prod.mk.inj h3).1
  rw [a6.look kLB_inj] at h5
  have h6 : c = (lookM T k).getD zeroEI := by
    cases hl : lookM T k with
    | none => rw [hl] at h5; exact (evEI_inj _ _ h5).symm
    | some v => rw [hl] at h5; exact (evEI_inj _ _ h5).symm
  rw [h6]
end Go.Proofs.Ytfdaeajafmcjcaa
