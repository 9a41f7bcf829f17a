/- Texts of this proof, one behind the other. -/
import Derived.Below
import Derived.ChangeSame
set_option linter.unusedVariables false
set_option linter.unusedSimpArgs false
section
/- A law's last step where the call has made memory of its own, of whatever sort: what lay before lies as it lay, so each argument reads as it read. -/
namespace Go.Proofs.YtlkeomcillencaaGreat
open Go Go.RowKit Go.WideShapes Go.ChangeShapes

theorem post_below {H : Type} {enc : TypeId × Value → H} {P : Program} {f : Func} {s : ChangeSpec} {apart fresh handsOn again : Bool} {W W' : World} {args : Array Value} {v : Value} {ds gs : List (DataW H)} {all pa pv : List MemPlace}
    (hW : DataW.Whole enc P f.params.toList s.vars apart W args.toList ds gs all)
    (hr : ∀ (b : Nat) (sp : Nat → Bool) (hd : Bool), DataW.TrodAll enc P W' b sp hd f.resultTypes.toList (v.resultList f.resultTypes.size) (s.fn H (ds ++ gs)).results [])
    (ha : ∀ sp : Nat → Bool, (∀ p ∈ all, sp p.block = true) → DataW.TrodAll enc P W' 0 sp true f.params.toList args.toList (s.fn H (ds ++ gs)).args pa)
    (hv : ∀ sp : Nat → Bool, (∀ p ∈ all, sp p.block = true) → DataW.TrodVars enc P W' sp s.vars (s.fn H (ds ++ gs)).vars pv)
    (hpl : all = pa ++ pv) (hB : Below W.heap.size W W')
    (hok : ∀ (j : Nat) (t : TypeId) (r : Value), f.resultTypes[j]? = some t → (v.resultList f.resultTypes.size)[j]? = some r → Value.okWide P W' .any 0 t r) :
    s.post enc P f apart fresh handsOn again W args v W' := by
  have low : ∀ p ∈ all, p.block < W.heap.size := fun p hp => hW.lt p hp
  refine ⟨ds, gs, all, [], pa, pv, hW, hr _ _ _, ha (fun b => decide (b < W.heap.size)) fun p hp => by simpa using low p hp, hv (fun b => decide (b < W.heap.size)) fun p hp => by simpa using low p hp,
    World.keptBut_mono (fun p hp => ⟨hp, .inr (by rw [hpl, List.mem_append] at hp; exact hp)⟩) (hB.frame (· ∈ all)), fun _ => ?_⟩
  obtain ⟨_, _, _, _, _, hfrozen, hapart⟩ := hW
  have same : ∀ p : MemPlace, p ∈ ([] ++ pa) ++ pv → p ∈ all := fun p hp => by rw [hpl]; simpa using hp
  refine ⟨hok, _, _, ([] ++ pa) ++ pv, ⟨[] ++ pa, pv, trodAll_append (ha _ fun _ _ => rfl) (hr _ _ _), hv _ fun _ _ => rfl, rfl, fun b off hp => ?_, fun h => ?_⟩, fun p hp _ => ?_⟩
  · rw [hB.frozen (low _ (same _ hp))]
    exact hfrozen b off (same _ hp)
  · have := hapart h
    rw [hpl] at this
    simpa using this
  · rw [hpl]
    simpa using hp
end Go.Proofs.YtlkeomcillencaaGreat
end
