/- An argument that is a struct of texts and numbers: it reads the same in any world. -/
import Derived.ChangeArms
import Derived.ChangeSame
import Derived.WideShapes
namespace Go.Proofs.YtbpnaclnninndaaDoor
set_option linter.unusedVariables false
set_option linter.unusedSimpArgs false
open Go Go.ChangeShapes Go.WideShapes

section
variable {H : Type} {enc : TypeId × Value → H} {P : Program}
/-- a type of one cell that leads nowhere -/
def Plain (P : Program) (t : TypeId) : Prop := P.underlying t = some .string ∨ ∃ k, P.underlying t = some (.int k)
theorem flat_one {t : TypeId} (h : Plain P t) {w w' : World} {base base' n : Nat} {spare spare' : Nat → Bool} {held held' : Bool} {cs : List Value} :
    DataW.trod enc P w base spare held n t cs = DataW.trod enc P w' base' spare' held' n t cs := by
  have key : ∀ {w w' : World} {base base' : Nat} {spare spare' : Nat → Bool} {held held' : Bool} {x}, DataW.trod enc P w base spare held n t cs = some x → DataW.trod enc P w' base' spare' held' n t cs = some x := by
    intro w w' base base' spare spare' held held' x hx
    cases n with
    | zero => simp [DataW.trod] at hx
    | succ n =>
      rcases h with h | ⟨k, h⟩
      · obtain ⟨s, rfl, rfl, hs⟩ := DataW.trod_string h hx
        simp [DataW.trod, h, hs]
      · obtain ⟨v, rfl, rfl, hs⟩ := DataW.trod_int h hx
        simp [DataW.trod, h, hs]
  cases hx : DataW.trod enc P w base spare held n t cs with
  | some x => exact (key hx).symm
  | none =>
    cases hy : DataW.trod enc P w' base' spare' held' n t cs with
    | none => rfl
    | some y => rw [key hy] at hx; cases hx
theorem mapM_same {α β : Type} {f g : α → Option β} {l : List α} (h : ∀ a ∈ l, f a = g a) : l.mapM f = l.mapM g := by
  induction l with
  | nil => rfl
  | cons a l ih =>
    rw [List.mapM_cons, List.mapM_cons, h a (by simp), ih fun b hb => h b (by simp [hb])]
theorem flat_struct {t : TypeId} {fs : Array Field} (ht : P.underlying t = some (.struct fs)) (hf : ∀ f ∈ fs.toList, Plain P f.type) {w w' : World} {base base' n : Nat} {spare spare' : Nat → Bool} {held held' : Bool} {cs : List Value} :
    DataW.trod enc P w base spare held n t cs = DataW.trod enc P w' base' spare' held' n t cs := by
  cases n with
  | zero => simp [DataW.trod]
  | succ n =>
    have e : fs.toList.mapM (fun f => DataW.trod enc P w base spare held n f.type ((cs.drop f.offset).take (P.cellsOf f.type))) = fs.toList.mapM (fun f => DataW.trod enc P w' base' spare' held' n f.type ((cs.drop f.offset).take (P.cellsOf f.type))) :=
      mapM_same fun f hfm => flat_one (hf f hfm)
    unfold DataW.trod
    rw [ht]
    simp only []
    rw [e]
theorem flat_Trod {t : TypeId} {fs : Array Field} (ht : P.underlying t = some (.struct fs)) (hf : ∀ f ∈ fs.toList, Plain P f.type) {w w' : World} {base base' : Nat} {spare spare' : Nat → Bool} {held held' : Bool} {v : Value} {d : DataW H} {p : List MemPlace}
    (h : DataW.Trod enc P w base spare held t v d p) : DataW.Trod enc P w' base' spare' held' t v d p := by
  obtain ⟨n, hn⟩ := h
  exact ⟨n, by rw [← hn]; exact flat_struct ht hf⟩
end
end Go.Proofs.YtbpnaclnninndaaDoor
