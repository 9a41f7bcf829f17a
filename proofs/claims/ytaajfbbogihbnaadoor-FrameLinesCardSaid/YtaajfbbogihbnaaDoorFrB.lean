/- Layer 5: lines, as a function that ranges. -/
import Derived.Test.YtaajfbbogihbnaaDoorFrM
import Derived.Test.YtaajfbbogihbnaaDoorRangeD
import Derived.Test.YtaajfbbogihbnaaDoorTellsF
import Derived.Test.YtaajfbbogihbnaaDoorIdxL
import Derived.Sort.LoopGhostIn
import Derived.Stop.RegionWithIn
import Derived.Test.YtaajfbbogihbnaaDoorRangeT
namespace Go.Proofs.YtaajfbbogihbnaaDoor
set_option linter.unusedVariables false
set_option linter.unusedSimpArgs false
open Go Go.RowKit Go.Lib
attribute [local go_sem] Oper.semAt_some

def crlf8 : ByteArray := { data := #[13, 10] }
theorem idxFr (v : Value) (l : List UInt8) (w : World) (hl : l.length ≤ 1000000) (hv : At8 w v l) (hT : Tabs8 w) :
    Calls Tryd.prog 20 #[v, .string { data := #[13, 10] }] w fun e w' => e = .returned (.int .i64 (Lib.indexAny l [13, 10])) ∧ Below w.heap.size w w' :=
  idx8_all l v { data := #[13, 10] } w rfl (by unfold ascL; decide) (by omega) hv hT
theorem tabs8_same {w W : World} (h : Tabs8 w) (hs : ∀ k, k < 3 → W.heap[k]? = w.heap[k]?) : Tabs8 W :=
  ⟨⟨fun c hc => (cell_same (p := ⟨1, c, none⟩) (hs 1 (by decide))).trans (h.1.1 c hc), fun i hi => ⟨(cell_same (p := ⟨2, 2 * i, none⟩) (hs 2 (by decide))).trans (h.1.2 i hi).1, (cell_same (p := ⟨2, 2 * i + 1, none⟩) (hs 2 (by decide))).trans (h.1.2 i hi).2⟩⟩,
    h.2.elim fun m hm => ⟨m, (cell_same (p := ⟨0, 0, none⟩) (hs 0 (by decide))).trans hm⟩⟩
theorem frA_same {F : Nat} {v : Value} {s : FSt} {w W : World} (h : FrA F v s w) (h1 : W.heap[F]? = w.heap[F]?) (h2 : ∀ k, v.ownBlock = some k → W.heap[k]? = w.heap[k]?) : FrA F v s W :=
  ⟨h1.trans h.1, own8_kept h.2.1 h2, h.2.2.1, h.2.2.2⟩
/-- a line told -/
def encLn (x : FSt) : Array Value := #[lineV x]
/-- which blocks are read, which written, by lines of a framer -/
def LnY (Fb : Nat) (Rb : Nat → Prop) : Nat → Prop := fun k => k = Fb ∨ Rb k ∨ k < 3
def LnZ (B F : Nat) (v : Value) : Nat → Prop := fun k => k = B ∨ k = F ∨ v.ownBlock = some k
/-- what is so in each round -/
structure LnI (B Fb F : Nat) (Rb : Nat → Prop) (v0 : Value) (xs : List FSt) (X : Nat → Prop) (V : World) (J : List FSt → (Nat → Prop) → World → Prop) (O : List FSt) (R : List UInt8) (wr : World) (X1 : Nat → Prop) (pre : List FSt) (s : FSt) (v bv : Value) : Prop where
  g : GrowX X X1 V wr
  f : Fr (fun k => X k ∨ LnZ B F v0 k) V wr
  j : J pre X1 wr
  t : pre ++ O = xs
  b : wr.heap[B]? = some (.cells #[bv] 26 (0, 0))
  bb : ∀ k, 0 < R.length → bv.ownBlock = some k → Rb k
  a : At8 wr bv R
  r : FrA F v s wr
  rb : ∀ k, v.ownBlock = some k → ¬ X1 k ∧ k ≠ B ∧ ¬ LnY Fb Rb k ∧ (v0.ownBlock = some k ∨ V.heap.size ≤ k)
/-- the blocks lie apart -/
structure LnA (B Fb F : Nat) (Rb : Nat → Prop) (v : Value) (X : Nat → Prop) (V : World) : Prop where
  h1 : B ≠ F
  h2 : ¬ LnY Fb Rb B
  h3 : ¬ LnY Fb Rb F
  h4 : ∀ k, v.ownBlock = some k → k ≠ B ∧ ¬ LnY Fb Rb k
  x : ∀ k, X k → k < V.heap.size ∧ ¬ (LnY Fb Rb k ∨ LnZ B F v k)
  y : ∀ k, LnY Fb Rb k ∨ LnZ B F v k → k < V.heap.size
  p : V.heap[Fb]? = some (.cells #[.pointer (some ⟨F, 0, none⟩)] 24 (0, 0))
  T : Tabs8 V
section
variable {B Fb F : Nat} {Rb : Nat → Prop} {v0 : Value} {xs O : List FSt} {X X1 : Nat → Prop} {V wr : World} {J : List FSt → (Nat → Prop) → World → Prop} {R : List UInt8} {pre : List FSt} {s : FSt} {v bv : Value}
theorem LnI.nx (h : LnI B Fb F Rb v0 xs X V J O R wr X1 pre s v bv) (ha : LnA B Fb F Rb v0 X V) {k : Nat} (hk : LnY Fb Rb k ∨ LnZ B F v0 k) : ¬ X1 k := fun e => (ha.x k ((h.g k e).2 (ha.y k hk))).2 hk
/-- what is read stays -/
theorem LnI.same (h : LnI B Fb F Rb v0 xs X V J O R wr X1 pre s v bv) (ha : LnA B Fb F Rb v0 X V) {k : Nat} (hk : LnY Fb Rb k) : wr.heap[k]? = V.heap[k]? := h.f.block k (ha.y k (.inl hk)) fun e => by
  rcases e with e | e
  · exact (ha.x k e).2 (.inl hk)
  · rcases e with rfl | rfl | e
    · exact ha.h2 hk
    · exact ha.h3 hk
    · exact (ha.h4 k e).2 hk
theorem LnI.tabs (h : LnI B Fb F Rb v0 xs X V J O R wr X1 pre s v bv) (ha : LnA B Fb F Rb v0 X V) : Tabs8 wr := tabs8_same ha.T fun k hk => h.same ha (.inr (.inr hk))
theorem LnI.ptr (h : LnI B Fb F Rb v0 xs X V J O R wr X1 pre s v bv) (ha : LnA B Fb F Rb v0 X V) : wr.heap[Fb]? = some (.cells #[.pointer (some ⟨F, 0, none⟩)] 24 (0, 0)) := (h.same ha (.inl rfl)).trans ha.p
/-- new blocks alone -/
theorem LnI.fresh (h : LnI B Fb F Rb v0 xs X V J O R wr X1 pre s v bv) (ha : LnA B Fb F Rb v0 X V) (hJ : Stays J) {W : World} (hf : Fr (fun _ => False) wr W) : LnI B Fb F Rb v0 xs X V J O R W X1 pre s v bv where
  g := fun k hk => ⟨Nat.lt_of_lt_of_le (h.g k hk).1 hf.size, (h.g k hk).2⟩
  f := h.f.trans3 hf fun k _ e => e.elim
  j := hJ.fr h.j (fun k hk => (h.g k hk).1) hf fun k e => e.elim
  t := h.t
  b := hf.blk h.b fun e => e
  bb := h.bb
  a := at8_kept h.a hf fun k _ _ e => e
  r := frA_kept h.r hf (fun e => e) fun k _ e => e
  rb := h.rb
/-- the framer's own -/
theorem LnI.keep (h : LnI B Fb F Rb v0 xs X V J O R wr X1 pre s v bv) (ha : LnA B Fb F Rb v0 X V) (hJ : Stays J) {W : World} {v2 : Value} {s2 : FSt} (hk : FrA F v2 s2 W) (hf : Fr (fun k => k = F ∨ v.ownBlock = some k) wr W) (ht : ∀ k, v2.ownBlock = some k → v.ownBlock = some k ∨ wr.heap.size ≤ k) : LnI B Fb F Rb v0 xs X V J O R W X1 pre s2 v2 bv where
  g := fun k hk => ⟨Nat.lt_of_lt_of_le (h.g k hk).1 hf.size, (h.g k hk).2⟩
  f := h.f.trans3 hf fun k hk e => by
    rcases e with rfl | e
    · exact .inr (.inr (.inl rfl))
    · rcases (h.rb k e).2.2.2 with e2 | e2
      · exact .inr (.inr (.inr e2))
      · omega
  j := hJ.fr h.j (fun k hk => (h.g k hk).1) hf fun k e => by
    rcases e with rfl | e
    · exact h.nx ha (.inr (.inr (.inl rfl)))
    · exact (h.rb k e).1
  t := h.t
  b := hf.blk h.b fun e => by
    rcases e with e | e
    · exact ha.h1 e
    · exact (h.rb B e).2.1 rfl
  bb := h.bb
  a := at8_kept h.a hf fun k h0 hq e => by
    rcases e with e | e
    · exact ha.h3 (.inr (.inl (e ▸ h.bb k h0 hq)))
    · exact (h.rb k e).2.2.1 (.inr (.inl (h.bb k h0 hq)))
  r := hk
  rb := fun k hk => by
    rcases ht k hk with e | e
    · exact h.rb k e
    · have hV := h.f.size
      refine ⟨fun e2 => by have := (h.g k e2).1; omega, fun e2 => by have := blk_lt h.b; omega, fun e2 => by have := ha.y k (.inl e2); omega, .inr (by omega)⟩
/-- less in the box -/
theorem LnI.setB (h : LnI B Fb F Rb v0 xs X V J O R wr X1 pre s v bv) (ha : LnA B Fb F Rb v0 X V) (hJ : Stays J) {bv2 : Value} {r : List UInt8} (h2 : At8 wr bv2 r) (hb2 : ∀ k, 0 < r.length → bv2.ownBlock = some k → Rb k) : LnI B Fb F Rb v0 xs X V J O r (wr.setCell ⟨B, 0, none⟩ bv2) X1 pre s v bv2 := by
  have hf : Fr (fun k => k = B) wr (wr.setCell ⟨B, 0, none⟩ bv2) := (Fr.refl (fun k => k = B) wr).setCell ⟨B, 0, none⟩ rfl _
  exact {
    g := fun k hk => ⟨Nat.lt_of_lt_of_le (h.g k hk).1 hf.size, (h.g k hk).2⟩
    f := h.f.trans3 hf fun k hk e => .inr (.inl e)
    j := hJ.fr h.j (fun k hk => (h.g k hk).1) hf fun k e => by subst e; exact h.nx ha (.inr (.inl rfl))
    t := h.t
    b := blk_set h.b 0 _
    bb := hb2
    a := at8_kept h2 hf fun k h0 hk e => by subst e; exact ha.h2 (.inr (.inl (hb2 _ h0 hk)))
    r := frA_kept h.r hf (fun e => ha.h1 e.symm) fun k hk e => (h.rb k hk).2.1 e
    rb := h.rb }
/-- behind the yield -/
theorem LnI.told (h : LnI B Fb F Rb v0 xs X V J O R wr X1 pre s v bv) (ha : LnA B Fb F Rb v0 X V) {J' : List FSt → (Nat → Prop) → World → Prop} {X2 : Nat → Prop} {W : World} {pre' O' : List FSt} (hg : GrowX X1 X2 wr W) (hf : Fr X1 wr W) (hj : J' pre' X2 W) (ht : pre' ++ O' = xs) : LnI B Fb F Rb v0 xs X V J' O' R W X2 pre' s v bv where
  g := h.g.trans hg h.f.size
  f := h.f.trans3 hf fun k hk e => .inl ((h.g k e).2 hk)
  j := hj
  t := ht
  b := hf.blk h.b (h.nx ha (.inr (.inl rfl)))
  bb := h.bb
  a := at8_kept h.a hf fun k h0 hk => h.nx ha (.inl (.inr (.inl (h.bb k h0 hk))))
  r := frA_kept h.r hf (h.nx ha (.inr (.inr (.inl rfl)))) fun k hk => (h.rb k hk).1
  rb := fun k hk => by
    obtain ⟨q1, q2, q3, q4⟩ := h.rb k hk
    have hkl : k < wr.heap.size := ((own8_form h.r.2.1).elim fun A ⟨c, e⟩ => (e.2.2.2 k hk).2)
    exact ⟨fun e => q1 ((hg k e).2 hkl), q2, q3, q4⟩
/-- what is left behind -/
def LnD (F : Nat) (v0 : Value) (w : World) (sf : FSt) : (Nat → Prop) → World → Prop := fun X V => ∃ v, FrA F v sf V ∧ ¬ X F ∧ ∀ k, v.ownBlock = some k → ¬ X k ∧ (v0.ownBlock = some k ∨ w.heap.size ≤ k)
theorem lnD_rest (F : Nat) (v0 : Value) (w : World) (sf : FSt) : Rest (LnD F v0 w sf) := fun X X' V V' ⟨v, h1, h2, h3⟩ hs hf =>
  ⟨v, frA_kept h1 hf h2 fun k hk => (h3 k hk).1, fun e => h2 (hs _ e), fun k hk => ⟨fun e => (h3 k hk).1 (hs _ e), (h3 k hk).2⟩⟩
theorem LnI.left (h : LnI B Fb F Rb v0 xs X V J O R wr X1 pre s v bv) (ha : LnA B Fb F Rb v0 X V) {w : World} (hw : w.heap.size ≤ V.heap.size) : LnD F v0 w s X1 wr :=
  ⟨v, h.r, h.nx ha (.inr (.inr (.inl rfl))), fun k hk => ⟨(h.rb k hk).1, (h.rb k hk).2.2.2.imp id fun e => by omega⟩⟩
end
end Go.Proofs.YtaajfbbogihbnaaDoor
