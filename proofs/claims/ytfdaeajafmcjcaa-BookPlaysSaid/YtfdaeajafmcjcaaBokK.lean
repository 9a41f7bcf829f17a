/- Layer 2: keys of a book: folded names. -/
import Derived.Test.YtfdaeajafmcjcaaMapM
import Derived.Test.YtfdaeajafmcjcaaRangeP
import Derived.Test.YtfdaeajafmcjcaaTellsF
import Derived.Test.YtfdaeajafmcjcaaFoldH
import Derived.Test.YtfdaeajafmcjcaaChecked
import Derived.Maps.OwnOps
import Derived.Maps.OwnSet
import Derived.Maps.StringElems
import Derived.Sort.KeysCollected
import Derived.Laws.Cover1
import Derived.WalkSpells
import Derived.Outline
namespace Go.Proofs.Ytfdaeajafmcjcaa
set_option linter.unusedVariables false
set_option linter.unusedSimpArgs false
open Go Go.RowKit Go.Maps

abbrev KeyB := List UInt8
def kVB (k : KeyB) : Value := .string (bs k)
def kLB (k : KeyB) : Lit := .string k
def OkKB (k : KeyB) : Prop := k.length ≤ maxLen
theorem kLB_inj : ∀ a b : KeyB, kLB a = kLB b → a = b := fun a b h => by simpa [kLB] using h
theorem kLB_key (k : KeyB) : WideAt.IsKeyLit (kLB k) := by simp [kLB, WideAt.IsKeyLit]
theorem keyedB : Keyed Try.prog 9 := string_keyed Try.underlying9
theorem keyOfB {k : KeyB} (h : OkKB k) : keyOf Try.prog 9 (kVB k) = some (kLB k) := WideMaps.keyOf_string_mk Try.underlying9 (by simpa [OkKB] using h)
theorem ownsB_same {H : Type} {P : Program} {k : TypeId} {R : Value → Option (DataW H × List MemPlace)} {w w' : World} {b n : Nat} {D : DataW H} (h : w.ownsMap P k R b n D) (he : w'.heap[b]? = w.heap[b]?) : w'.ownsMap P k R b n D := by
  obtain ⟨es, clock, hb, F, hs, hD⟩ := h
  exact ⟨es, clock, he.trans hb, F, hs, hD⟩
theorem ownsB_tight {H : Type} {P : Program} {k : TypeId} {R : Value → Option (DataW H × List MemPlace)} {w : World} {b n : Nat} {D : DataW H} (h : w.ownsMap P k R b n D) : w.ownsMap P k R b (Maps.size D) D := by
  obtain ⟨es, clock, hb, F, hs, hD⟩ := h
  refine ⟨es, clock, hb, F, ?_, hD⟩
  rw [hD]
  show es.size ≤ ((es.toList.map (WideElems.rg P k R)).foldr DataW.insert []).length
  rw [length_sorted]; simp
/-- an entry: its name, its name folded, its thing -/
structure Ent (V : Type) where
  name : ByteArray
  fold : KeyB
  thing : V
theorem fold_ok (s : ByteArray) (h : s.size ≤ 1000000) : OkKB (foldL s.data.toList) := by
  have h1 : s.data.toList.length = s.size := rfl
  have h2 : (foldL s.data.toList).length ≤ 1000000 := by rw [foldL_length, h1]; exact h
  exact Nat.le_trans h2 (by decide)
theorem lookM_in {α β : Type} [DecidableEq α] {T : List (α × β)} {k : α} {v : β} (h : lookM T k = some v) : (k, v) ∈ T := by
  unfold lookM at h
  rw [Option.map_eq_some_iff] at h
  obtain ⟨p, h1, rfl⟩ := h
  have h2 := List.find?_some h1
  have h3 : p.1 = k := by simpa using h2
  subst h3
  exact List.mem_of_find?_eq_some h1
theorem lookM_none {α β : Type} [DecidableEq α] {T : List (α × β)} {k : α} (h : (lookM T k).isSome = false) : delM T k = T := by
  unfold delM
  rw [List.filter_eq_self]
  intro p hp
  simp
  rintro rfl
  unfold lookM at h
  rw [Option.isSome_map] at h
  cases hf : T.find? fun q => decide (q.1 = p.1) with
  | none => rw [List.find?_eq_none] at hf; exact absurd (hf p hp) (by simp)
  | some x => rw [hf] at h; cases h
end Go.Proofs.Ytfdaeajafmcjcaa
