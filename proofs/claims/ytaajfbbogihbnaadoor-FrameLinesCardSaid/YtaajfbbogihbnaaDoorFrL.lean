/- Layer 5: what is laid, and the world's shape; pieces of bytes as they are given. -/
import Derived.Test.YtaajfbbogihbnaaDoorFrJ
import Derived.Test.YtaajfbbogihbnaaDoorArgsN
import Derived.Test.YtaajfbbogihbnaaDoorRows
import Derived.Lib.LaidU8T
import Derived.LaidMore
import Derived.Lay
import Derived.SevenTiedAt
import Derived.Stop.Joined
import Derived.Shelf.Vars
import Derived.Handed
namespace Go.Proofs.YtaajfbbogihbnaaDoor
set_option linter.unusedVariables false
set_option linter.unusedSimpArgs false
open Go Go.ChangeShapes Go.WideShapes Go.RowKit Go.Deep Go.Shelf Go.Lib

def ren8 : Go.Shelf.Ren := ⟨fun n => n, fun | 5 => 5 | 119 => 71 | 138 => 73 | 139 => 74 | n => n, fun | 3 => 1 | 4 => 2 | n => n⟩
theorem laid_tabs {W : World} (h : laidMetH Tryd.prog [("unicode/utf8.acceptRanges", Rows.laid_unicode_utf8_acceptRanges), ("unicode/utf8.first", Rows.laid_unicode_utf8_first)] W) : Lib.Utf8Tabs 1 2 W := by
  rw [MakeChecks.laidMetH_plain _ _ _ (by kernel_rfl)] at h
  obtain ⟨ps, hl, _⟩ := h
  have h1 := LaidVars_reads hl "unicode/utf8.first" Rows.laid_unicode_utf8_first (by simp)
  have h2 := LaidVars_reads hl "unicode/utf8.acceptRanges" Rows.laid_unicode_utf8_acceptRanges (by simp)
  have e1 : (Rows.laid_unicode_utf8_first : DataW Unit) = Lib.firstData := by kernel_rfl
  have e2 : (Rows.laid_unicode_utf8_acceptRanges : DataW Unit) = Lib.acceptData := by kernel_rfl
  rw [e1] at h1
  rw [e2] at h2
  exact utf8Tabs_of_readsT (P := Tryd.prog) (ρ := ren8) ⟨Tryd.underlying5, Tryd.underlying71, Tryd.underlying73, Tryd.underlying74⟩
    ⟨by kernel_rfl, by kernel_rfl, by kernel_rfl, by kernel_rfl, by kernel_rfl, by kernel_rfl, by kernel_rfl⟩ h1 h2
theorem shaped_max {W : World} (h : W.ShapedOpen Tryd.prog) : ∃ m : Int, W.cell? ⟨0, 0, none⟩ = some (.int .i64 m) :=
  cell_of_shapedOpen_int (zero := #[.int .i64 0]) (t := 3) h (of_decide_eq_true (by kernel_rfl)) (by kernel_rfl) rfl (by kernel_rfl) (by kernel_rfl) Tryd.underlying3
/-- a statement's conditions, the listed variables as they are laid, and the world in its shape -/
theorem handed_laid_shaped {H : Type} {enc : TypeId × Value → H} {a : Assume} {C : Checked} {os : Os} {f : FuncId} {fn : Func} {s : ChangeSpec} {conds : List PathCond} {apart fresh handsOn again : Bool} {X : World → Array Value → Prop}
    (hX : ∀ (w w' : World) (args : Array Value), w.heap = w'.heap → X w args → X w' args) (own : ownKnob C.prog.godebug = none) (st : os.Started) (ni : C.prog.inits.idxOf? f = none) (hfn : C.prog.funcs[f]? = some fn)
    (wit : ∃ (w : World) (tape : Tape) (i : Input), w.os = os ∧ (w.forCall tape i).Shaped C.prog ∧ i.vars = [] ∧ Input.okWide C.prog (w.forCall tape i) .any w.heap.size f i ∧
      ((s.pre enc C.prog fn conds apart (w.forCall tape i).memory i.args ∧ X (w.forCall tape i).memory i.args) ∧ sizedMet enc C.prog fn (OpenSpec.ofChange s) apart (w.forCall tape i).memory i.args) ∧ a.holds C.prog (lone (Frame.enter C.prog f i.args .normal) [] (w.forCall tape i)))
    (walk : ∀ (W : World) (base : Nat) (args : Array Value) (ds gs : List (DataW H)) (before : List MemPlace), (∀ (j : Nat) t v, fn.params[j]? = some t → args[j]? = some v → Value.okWide C.prog W .any base t v) →
      DataW.Whole enc C.prog fn.params.toList s.vars apart W args.toList ds gs before → conds.all (PathCond.test C.prog ⟨fn.params.toList, ds, s.plain.varTypes C.prog, gs⟩) = true →
      (DataW.weightsEach C.prog (fn.params.toList ++ s.plain.varTypes C.prog) (ds ++ gs)).all (· ≤ reachBytes) = true → X W args → W.ShapedOpen C.prog → a.holds C.prog (lone (Frame.enter C.prog f args .normal) [] W) →
      Calls C.prog f args W fun e W' => ∃ v, e = .returned v ∧ s.post enc C.prog fn apart fresh handsOn again W args v W') :
    ReturnsInHanded a C os f .any (fun w args => (s.pre enc C.prog fn conds apart w args ∧ X w args) ∧ sizedMet enc C.prog fn (OpenSpec.ofChange s) apart w args) (s.post enc C.prog fn apart fresh handsOn again) := by
  refine returnsInHanded_of_calls own st ni wit ?_
  rintro w tape i _ hshape _ ⟨_, _, _, fn2, hfn2, _, _, _, _, hval⟩ ⟨⟨⟨ds, gs, before, hw, hc⟩, hx⟩, hz⟩ hholds
  cases hfn2.symm.trans hfn
  refine (walk _ w.heap.size i.args ds gs before hval (DataW.Whole.of_heap (w' := w.forCall tape i) (by rfl) hw) hc (hz.weights hw) (hX (w.forCall tape i).memory (w.forCall tape i) i.args rfl hx) hshape hholds).mono ?_
  rintro e W' ⟨v, rfl, hp⟩
  exact ChangeSpec.post_blind hp

/-- a byte as it is given -/
abbrev z8T : Type := Int
def z8L (x : z8T) : List Value := [.int .u8 x]
def z8G (x : z8T) : Prop := (Lit.int .u8 x).wf = true
theorem dec_z8 {H : Type} {enc : TypeId × Value → H} {W : World} {base : Nat} {spare : Nat → Bool} {held : Bool} {fuel : Nat} {cs : List Value} {y : DataW H × List MemPlace} (hlen : cs.length = 1) (hf : DataW.trod enc Tryd.prog W base spare held fuel 5 cs = some y) : ∃ x, cs = z8L x ∧ z8G x := by
  obtain ⟨m0, q0, _, z0⟩ := DataW.trod_int Tryd.underlying5 hf
  exact ⟨m0, q0, z0⟩
abbrev z8rT : Type := RowV z8T
def z8rG (W : World) (x : z8rT) : Prop := RowG 1 z8L z8G W x
theorem dec_z8r {H : Type} {enc : TypeId × Value → H} {W : World} {fuel : Nat} {cs : List Value} {y : DataW H × List MemPlace} (hf : DataW.trod enc Tryd.prog W 0 (fun _ => true) true fuel 26 cs = some y) : ∃ x : z8rT, cs = rowL x ∧ z8rG W x :=
  dec_elems (by decide) z8L z8G Tryd.underlying26 (by kernel_rfl) (fun _ _ _ hl h => dec_z8 hl h) hf
def by8 (x : z8rT) : List UInt8 := x.2.1.map fun z => z.toNat.toUInt8
theorem by8_len (x : z8rT) : (by8 x).length = x.2.1.length := List.length_map _
theorem by8_get (x : z8rT) (j : Nat) (hj : j < (by8 x).length) : (by8 x)[j] = (x.2.1[j]'(by rw [by8_len] at hj; exact hj)).toNat.toUInt8 := by
  simp [by8]
theorem at8_given {W : World} {x : z8rT} (h : z8rG W x) : At8 W (.slice x.1 (by8 x).length x.2.2) (by8 x) := by
  obtain ⟨h1, h2, h3, h4, h5⟩ := h
  refine ⟨_, _, rfl, by rw [by8_len]; exact h1, h2, fun e => (h5 e).2, fun h0 => ?_⟩
  rw [by8_len] at h0
  obtain ⟨g, o, e, hg, hc⟩ := h4 h0
  refine ⟨g, o, e, hg, fun j hj => ?_⟩
  have hj2 : j < x.2.1.length := by rw [by8_len] at hj; exact hj
  have hq := hc j hj2 0 _ rfl
  have hz := h3 (x.2.1[j]) (List.getElem_mem _)
  have hr : IntKind.u8.min ≤ x.2.1[j] ∧ x.2.1[j] ≤ IntKind.u8.max := by simpa [z8G, Lit.wf] using hz
  have hm : IntKind.u8.min = 0 := by decide
  have hM : IntKind.u8.max = 255 := by decide
  rw [hm, hM] at hr
  rw [Nat.mul_one, Nat.add_zero] at hq
  rw [hq, by8_get]
  unfold enc8
  obtain ⟨z, hz0⟩ : ∃ z : Int, x.2.1[j] = z := ⟨_, rfl⟩
  rw [hz0] at hr ⊢
  have hr2 : (0 : Int) ≤ z ∧ z ≤ 255 := hr
  have h255 : z.toNat < 256 := by have := hr2.1; have := hr2.2; omega
  have : (z.toNat.toUInt8).toNat = z.toNat := by simp; omega
  rw [this]
  congr 2
  omega
set_option maxRecDepth 1000000 in
theorem open_z8s {H : Type} {enc : TypeId × Value → H} {W : World} {base : Nat} {v : Value} {d : DataW H} {p : List MemPlace} (hval : Value.okWide Tryd.prog W .any base 22 v) (h : DataW.Trod enc Tryd.prog W 0 (fun _ => true) true 22 v d p) : ∃ ps, Pieces W v ps := by
  obtain ⟨A, l, c, rfl, h1, h2, h3, h4⟩ := open_elems (k := 1) (by decide) rowL (z8rG W) Tryd.underlying22 (by kernel_rfl) (fun _ _ _ _ hf => dec_z8r hf) hval h
  refine ⟨l.map by8, A, c, by simp, fun h0 => ?_⟩
  rw [List.length_map] at h0
  obtain ⟨g, o, e, hg, hc⟩ := h4 h0
  refine ⟨g, o, e, hg, fun i hi => ?_⟩
  rw [List.length_map] at hi
  rw [List.getElem_map]
  have hq := hc i hi 0 _ rfl
  rw [Nat.mul_one, Nat.add_zero, ← by8_len] at hq
  exact ⟨_, _, hq, at8_given (h3 _ (List.getElem_mem _))⟩
end Go.Proofs.YtaajfbbogihbnaaDoor
