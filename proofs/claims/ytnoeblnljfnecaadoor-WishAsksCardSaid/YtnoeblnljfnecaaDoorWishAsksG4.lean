/- Texts of this proof, one behind the other. -/
import Derived.Test.YtnoeblnljfnecaaDoorWishAsksG1
import Derived.Test.YtnoeblnljfnecaaDoorWishAsksG3
import Derived.Outline
import Derived.Sort.CutIn
import Derived.Stop.RegionWithIn
import Derived.Test.YtnoeblnljfnecaaDoorWishAsksG2
import Derived.Deep.RegionWith
import Derived.Shelf.RegionOpenPlain
import Derived.Deep.QuietTactic
section
/- fold.Runs: the pieces of a text, one by one, as a function that ranges. -/
namespace Go.Proofs.YtnoeblnljfnecaaDoor
open Go.RowKit Go.Shelf
attribute [local go_sem] Oper.semAt_some

/-- a piece: its text, and whether its bytes are changed by folding -/
abbrev Piece := { x : ByteArray × Bool // x.1.size ≤ 1000000 }
abbrev encPiece (x : Piece) : Array Value := #[.string x.1.1, .bool x.1.2]
def tb (b : UInt8) : Bool := foldB b != b

def flat : List Piece → List UInt8
  | [] => []
  | x :: r => x.1.1.data.toList ++ flat r
theorem flat_snoc (l : List Piece) (x : Piece) : flat (l ++ [x]) = flat l ++ x.1.1.data.toList := by
  induction l with
  | nil => simp [flat]
  | cons y r ih => simp [flat, ih]
/-- is the next piece as it must be behind these: not empty, of one sort, of the other sort than the last one? -/
def okNext (pre : List Piece) (x : Piece) : Prop :=
  x.1.1.size ≠ 0 ∧ (∀ b ∈ x.1.1.data.toList, tb b = x.1.2) ∧ ∀ y, pre.getLast? = some y → x.1.2 ≠ y.1.2
/-- are pieces as they must be, each behind those ahead of it? -/
def okAll : List Piece → Prop
  | l => ∀ a x r, l = a ++ x :: r → okNext a x
theorem okAll_nil : okAll [] := by intro a x r h; simp at h
theorem okAll_snoc {l : List Piece} {x : Piece} : okAll (l ++ [x]) ↔ okAll l ∧ okNext l x := by
  constructor
  · intro h
    exact ⟨fun a y r e => h a y (r ++ [x]) (by rw [e]; simp), h l x [] rfl⟩
  · rintro ⟨h1, h2⟩ a y r e
    rcases List.eq_nil_or_concat r with rfl | ⟨r', z, rfl⟩
    · have : l ++ [x] = a ++ [y] := e
      obtain ⟨e1, e2⟩ := List.append_inj' this rfl
      simp at e2
      subst e1 e2; exact h2
    · have : l ++ [x] = (a ++ y :: r') ++ [z] := by rw [e]; simp
      obtain ⟨e1, e2⟩ := List.append_inj' this rfl
      exact h1 a y r' e1

/-- how far the pieces have come: what they are of, what is left -/
def RunsAt (l : List UInt8) (pre : List Piece) (rest : List UInt8) : Prop :=
  flat pre ++ rest = l ∧ okAll pre ∧ ∀ y b r, pre.getLast? = some y → rest = b :: r → tb b ≠ y.1.2

theorem flat_len {pre : List Piece} (h : okAll pre) : pre.length ≤ (flat pre).length := by
  induction pre using snoc_ind with
  | nil => simp
  | snoc l x ih =>
    rw [okAll_snoc] at h
    have := ih h.1
    have hx := h.2.1
    rw [flat_snoc]
    simp; omega

theorem runsAt_nil (l : List UInt8) : RunsAt l [] l := ⟨by simp [flat], okAll_nil, by intro y b r h; simp at h⟩

theorem RunsAt.snoc {l : List UInt8} {pre : List Piece} {p q : List UInt8} {t : Bool} (h : RunsAt l pre (p ++ q)) (hp : p ≠ [])
    (ht : ∀ b ∈ p, tb b = t) (hq : ∀ b r, q = b :: r → tb b ≠ t) (x : Piece) (hx : x.1 = (bs p, t)) : RunsAt l (pre ++ [x]) q := by
  obtain ⟨h1, h2, h3⟩ := h
  refine ⟨?_, okAll_snoc.2 ⟨h2, ?_⟩, ?_⟩
  · rw [flat_snoc, hx]; simpa using h1
  · refine ⟨?_, ?_, ?_⟩
    · rw [hx]; simp; exact hp
    · rw [hx]; simpa using ht
    · intro y hy
      rw [hx]
      obtain ⟨b, p', rfl⟩ := List.exists_cons_of_ne_nil hp
      have := h3 y b (p' ++ q) hy rfl
      rw [ht b (by simp)] at this
      exact this
  · intro y b r hy hr
    simp at hy
    subst hy
    rw [hx]
    exact hq b r hr

theorem RunsAt.bound {l : List UInt8} {pre : List Piece} {b : UInt8} {r : List UInt8} (h : RunsAt l pre (b :: r)) : pre.length < l.length := by
  have := flat_len h.2.1
  rw [← h.1]; simp; omega

theorem all_take (R : ByteArray) (t : Bool) (k : Nat) (hk : k ≤ R.size) (h : ∀ j (h : j < R.size), j < k → tb R[j] = t) : ∀ b ∈ R.data.toList.take k, tb b = t := by
  intro b hb
  obtain ⟨j, hj, rfl⟩ := List.mem_iff_getElem.1 hb
  simp only [List.length_take, ba_len] at hj
  rw [List.getElem_take]
  exact h j (by omega) (by omega)

theorem RunsAt.cut {l : List UInt8} {pre : List Piece} {R : ByteArray} (h : RunsAt l pre R.data.toList) (k : Nat) (hk : k < R.size) (t : Bool) (h0 : t = tb (R[0]'(by omega)))
    (ha : ∀ j (h : j < R.size), j < k → tb R[j] = t) (hn : tb R[k] ≠ t) (x : Piece) (hx : x.1 = (R.extract 0 k, t)) : RunsAt l (pre ++ [x]) (R.extract k R.size).data.toList := by
  have hk0 : k ≠ 0 := by rintro rfl; exact hn h0.symm
  rw [ba_extract_to]
  refine RunsAt.snoc (p := R.data.toList.take k) (t := t) (by rw [List.take_append_drop]; exact h) ?_ (all_take R t k (by omega) ha) ?_ x ?_
  · intro e
    have := congrArg List.length e
    rw [List.length_take, ba_len, List.length_nil] at this
    omega
  · intro b r e
    rw [ba_drop R k hk] at e
    cases e
    exact hn
  · rw [hx, ← ba_extract0]; rfl

theorem RunsAt.last {l : List UInt8} {pre : List Piece} {R : ByteArray} (h : RunsAt l pre R.data.toList) (hk : 0 < R.size) (t : Bool)
    (ha : ∀ j (h : j < R.size), j < R.size → tb R[j] = t) (x : Piece) (hx : x.1 = (R, t)) : RunsAt l (pre ++ [x]) [] := by
  refine RunsAt.snoc (p := R.data.toList) (t := t) (by rw [List.append_nil]; exact h) ?_ ?_ (by intro b r e; cases e) x (by rw [hx]; rfl)
  · intro e
    have := congrArg List.length e
    rw [ba_len, List.length_nil] at this
    omega
  · have := all_take R t R.size (Nat.le_refl _) ha
    rw [List.take_of_length_le (by rw [ba_len]; exact Nat.le_refl _)] at this
    exact this
end Go.Proofs.YtnoeblnljfnecaaDoor
end
section
/- fold.Runs: the walk of its function that ranges. -/
namespace Go.Proofs.YtnoeblnljfnecaaDoor
open Go.RowKit Go.Shelf
attribute [local go_sem] Oper.semAt_some



end Go.Proofs.YtnoeblnljfnecaaDoor
end
section
/- fold.Text: what is folded. -/
namespace Go.Proofs.YtnoeblnljfnecaaDoor
open Go.RowKit Go.Shelf
attribute [local go_sem] Oper.semAt_some

/-- bytes as cells -/
def u8s (l : List UInt8) : List Value := l.map fun b => Value.int .u8 b.toNat
theorem u8s_append (a b : List UInt8) : u8s (a ++ b) = u8s a ++ u8s b := by simp [u8s]
theorem u8s_bytes (s : ByteArray) : byteCells s = u8s s.data.toList := rfl

theorem u8s_step (a : List UInt8) (p : ByteArray) (k : Nat) (h : k < p.size) :
    u8s (a ++ (p.data.toList.map foldB).take (k + 1)) = u8s (a ++ (p.data.toList.map foldB).take k) ++ [.int .u8 (foldB p[k]).toNat] := by
  rw [← List.map_take, ba_take p k h, List.map_append, ← List.append_assoc, u8s_append, List.map_take]
  rfl

/-- what pieces are folded to -/
def tx (pre : List Piece) : List UInt8 := pre.flatMap fun x => if x.1.2 then x.1.1.data.toList.map foldB else x.1.1.data.toList
theorem tx_snoc (pre : List Piece) (x : Piece) : tx (pre ++ [x]) = tx pre ++ (if x.1.2 then x.1.1.data.toList.map foldB else x.1.1.data.toList) := by simp [tx]
theorem tx_len (pre : List Piece) : (tx pre).length ≤ pre.length * 1000000 := by
  induction pre using snoc_ind with
  | nil => simp [tx]
  | snoc l x ih =>
    rw [tx_snoc, List.length_append]
    have hx := x.2
    have e : (if x.1.2 then x.1.1.data.toList.map foldB else x.1.1.data.toList).length = x.1.1.size := by split <;> simp
    rw [e]
    simp only [List.length_append, List.length_cons, List.length_nil]
    omega
theorem tx_fold {pre : List Piece} (h : okAll pre) : tx pre = foldL (flat pre) := by
  induction pre using snoc_ind with
  | nil => rfl
  | snoc l x ih =>
    rw [okAll_snoc] at h
    rw [tx_snoc, flat_snoc, foldL_append, ih h.1]
    congr 1
    obtain ⟨_, hb, _⟩ := h.2
    cases hx : x.1.2 with
    | true => simp [foldL]
    | false =>
      rw [hx] at hb
      simp only [Bool.false_eq_true, if_false]
      unfold foldL
      have : ∀ l : List UInt8, (∀ b ∈ l, tb b = false) → l = l.map foldB := by
        intro l
        induction l with
        | nil => intro _; rfl
        | cons b r ih =>
          intro h
          have hb := h b (by simp)
          simp only [tb, bne_eq_false_iff_eq] at hb
          rw [List.map_cons, hb, ← ih fun c hc => h c (by simp [hc])]
      exact this _ hb

/-- 'out = append(out, ..)' onto a box's own row: what the walk owes. -/
theorem boxed_app {W w1 : World} {n₀ B : Nat} {t e : TypeId} {size g cap k m : Nat} {v' : Value} {xs ys : List Value} (hv : Boxed W B t (.slice (some ⟨g, 0, none⟩) k cap)) (hte : t ≠ e)
    (hrow : W.ownsRow n₀ e size (.slice (some ⟨g, 0, none⟩) k cap) k xs) (hn₀ : n₀ ≤ W.heap.size) (hB : n₀ ≤ B) (hown' : w1.ownsRow n₀ e size v' m ys) (hgrow : W.grownBy w1 (some g)) :
    Boxed w1 B t (.slice (some ⟨g, 0, none⟩) k cap) ∧ Boxed (w1.setCell ⟨B, 0, none⟩ v') B t v' ∧ (w1.setCell ⟨B, 0, none⟩ v').ownsRow n₀ e size v' m ys ∧ KeepsOthers W (w1.setCell ⟨B, 0, none⟩ v') ∧ Below n₀ W (w1.setCell ⟨B, 0, none⟩ v') := by
  have hv1 : Boxed w1 B t (.slice (some ⟨g, 0, none⟩) k cap) := hv.kept hgrow (hv.not_row hte hrow)
  rcases hrow.2 with ⟨h, _⟩ | ⟨g0, cap0, cur, h, hb, hgb, _⟩
  · cases h
  · simp only [Value.slice.injEq, Option.some.injEq, Addr.mk.injEq, true_and, and_true] at h
    obtain ⟨rfl, rfl⟩ := h
    refine ⟨hv1, hv1.set v', hown'.kept (grownBy_setCell' w1 B v') (.inr (hv1.not_row hte hown').symm), ?_, ?_⟩
    · refine (KeepsOthers.of_grownBy hgrow fun j o ej hj => ?_).trans (KeepsOthers.setCell _ _ _)
      cases ej
      rw [hgb] at hj; cases hj; rfl
    · refine ((Below.refl n₀ W).grown hgrow hn₀ fun j ej => ?_).setCell (p := ⟨B, 0, none⟩) hB v'
      cases ej
      exact hb

theorem conv_own {P : Program} (W : World) (src dst e : TypeId) (base g cap : Nat) (l : List UInt8) (hs : P.underlying src = some (.slice e)) (he : P.underlying e = some (.int .u8)) (hd : P.underlying dst = some .string)
    (h : W.ownsRow base e 1 (.slice (some ⟨g, 0, none⟩) l.length cap) l.length (u8s l)) :
    (convert src dst (.slice (some ⟨g, 0, none⟩) l.length cap)).run P W = .ok (.string (bs l)) W :=
  run_convert_bytes_back W src dst e ⟨g, 0, none⟩ cap l hs he hd fun j hj => h.cells (g := g) rfl j _ (by simp [u8s, hj])

theorem Tryd.infoU8 : (Tryd.prog.info? 5).map (fun i => (i.zero, i.size, i.bytes)) = some (some (.int .u8 0), 1, 1) := by kernel_rfl

end Go.Proofs.YtnoeblnljfnecaaDoor
end
section
/- The document's Text, Same, Compare of layer 1; awake. -/
namespace Go.Proofs.YtnoeblnljfnecaaDoor
open Go.RowKit

/-- 'string([]byte{b})' -/
theorem conv_one {P : Program} (W : World) (src dst e : TypeId) (b : UInt8) (hs : P.underlying src = some (.slice e)) (he : P.underlying e = some (.int .u8)) (hd : P.underlying dst = some .string) :
    (convert src dst (.slice (some ⟨W.heap.size, 0, none⟩) 1 1)).run P (W.alloc (.cells #[.int .u8 b.toNat] e)) = .ok (.string (bs [b])) (W.alloc (.cells #[.int .u8 b.toNat] e)) :=
  run_convert_bytes_back (W.alloc (.cells #[.int .u8 b.toNat] e)) src dst e ⟨W.heap.size, 0, none⟩ 1 [b] hs he hd fun j hj => by
    simp at hj
    subst hj
    simp [Addr.add]
theorem bs_append (a b : List UInt8) : bs a ++ bs b = bs (a ++ b) := by
  apply ba_ext
  simp [bs]
theorem foldL_step (s : ByteArray) (k : Nat) (h : k < s.size) : bs (foldL (s.data.toList.take k)) ++ bs [foldB s[k]] = bs (foldL (s.data.toList.take (k + 1))) := by
  rw [bs_append, ba_take s k h, foldL_append]; rfl



theorem bs_inj {a b : List UInt8} (h : bs a = bs b) : a = b := by
  have := congrArg (fun x : ByteArray => x.data.toList) h
  simpa using this
end Go.Proofs.YtnoeblnljfnecaaDoor
end
section
/- The document's Same and Compare of layer 1. -/
namespace Go.Proofs.YtnoeblnljfnecaaDoor
open Go.RowKit



theorem less_cmpL : ∀ (x y : List UInt8), Op.bytesLess x y = true ↔ cmpL x y = -1
  | [], [] => by simp [Op.bytesLess, cmpL]
  | [], _ :: _ => by simp [Op.bytesLess, cmpL]
  | _ :: _, [] => by simp [Op.bytesLess, cmpL]
  | a :: x, b :: y => by
    simp only [Op.bytesLess, cmpL, Bool.or_eq_true, decide_eq_true_eq, Bool.and_eq_true, beq_iff_eq, UInt8.lt_iff_toNat_lt]
    by_cases h1 : a.toNat < b.toNat
    · simp [h1]
    · rw [if_neg h1]
      by_cases h2 : b.toNat < a.toNat
      · rw [if_pos h2]
        constructor
        · rintro (h | ⟨rfl, _⟩) <;> omega
        · intro h; cases h
      · rw [if_neg h2, ← less_cmpL x y]
        have : a = b := UInt8.toNat_inj.mp (by omega)
        subst this
        simp
theorem cmpL_three : ∀ (x y : List UInt8), cmpL x y = -1 ∨ cmpL x y = 0 ∨ cmpL x y = 1
  | [], [] => by simp [cmpL]
  | [], _ :: _ => by simp [cmpL]
  | _ :: _, [] => by simp [cmpL]
  | a :: x, b :: y => by
    simp only [cmpL]
    split
    · simp
    · split
      · simp
      · exact cmpL_three x y
theorem cmpF_lt {a b : List UInt8} {x y : ByteArray} (hx : x = bs (foldL a)) (hy : y = bs (foldL b)) (h : Op.bytesLess x.toList y.toList = true) : cmpF a b = -1 := by
  subst hx hy
  rw [ByteArray.toList_eq, ByteArray.toList_eq] at h
  exact (less_cmpL _ _).1 h
theorem cmpF_eq {a b : List UInt8} {x y : ByteArray} (hx : x = bs (foldL a)) (hy : y = bs (foldL b)) (h : (!x.toList == y.toList) = false) : cmpF a b = 0 := by
  subst hx hy
  rw [beq_bs] at h
  simp at h
  exact cmpL_zero.2 h
theorem cmpF_gt {a b : List UInt8} {x y : ByteArray} (hx : x = bs (foldL a)) (hy : y = bs (foldL b)) (h : Op.bytesLess x.toList y.toList = false) (h2 : (!x.toList == y.toList) = true) : cmpF a b = 1 := by
  subst hx hy
  rw [ByteArray.toList_eq, ByteArray.toList_eq] at h
  rw [beq_bs] at h2
  simp at h2
  rcases cmpL_three (foldL a) (foldL b) with h3 | h3 | h3
  · have := (less_cmpL (foldL a) (foldL b)).2 h3
    rw [bs_toList, bs_toList] at h
    rw [h] at this; cases this
  · exact absurd (cmpL_zero.1 h3) h2
  · exact h3

end Go.Proofs.YtnoeblnljfnecaaDoor
end
section
/- ValidAlike, walked. -/
namespace Go.Proofs.YtnoeblnljfnecaaDoor
open Go.RowKit

theorem Rowed.below {w w' : World} {B : Nat} (h : Rowed w) (hB : w.heap.size ≤ B) (hb : Below B w w') : Rowed w' := by
  intro i hi
  obtain ⟨s, h1, h2⟩ := h i hi
  refine ⟨s, ?_, h2⟩
  rw [← h1]
  exact hb.cell (Nat.lt_of_lt_of_le (World.block_lt_of_cell? _ _ h1) hB)



theorem nickAt_fold0 (b : UInt8) : (decide (b = 126) || (nickAt 0 b == nickAt 0 (foldB b))) = true := all256 (p := fun b => decide (b = 126) || (nickAt 0 b == nickAt 0 (foldB b))) (by kernel_rfl) b
theorem nickAt_fold1 (b : UInt8) : (decide (b = 126) || (nickAt 1 b == nickAt 1 (foldB b))) = true := all256 (p := fun b => decide (b = 126) || (nickAt 1 b == nickAt 1 (foldB b))) (by kernel_rfl) b
theorem nickAt_fold (i : Nat) {b : UInt8} (h : b ≠ 126) : nickAt i b = nickAt i (foldB b) := by
  by_cases e : i = 0
  · subst e; have := nickAt_fold0 b; simpa [h] using this
  · have := nickAt_fold1 b
    have e1 : ∀ b, nickAt i b = nickAt 1 b := fun b => by unfold nickAt; rw [decide_eq_true e]; rfl
    rw [e1 b, e1 (foldB b)]; simpa [h] using this
theorem nick_tilde {s : ByteArray} (h : NickP s) : inB s.data.toList 126 = false := by
  symm
  refine inB_no (Nat.le_refl _) fun i _ hi e => ?_
  have := h.2 i hi
  rw [e] at this
  unfold nickAt at this
  rw [show letterB 126 = false from rfl, show signB 126 = false from rfl, show digitB 126 = false from rfl, show decide ((126 : UInt8).toNat = 45) = false from rfl] at this
  simp at this
theorem nick_fold {a b : ByteArray} (h : foldL a.data.toList = foldL b.data.toList) (ha : inB a.data.toList 126 = false) (hb : inB b.data.toList 126 = false) (hn : NickP a) : NickP b := by
  have hl : a.size = b.size := by
    have := congrArg List.length h
    simpa using this
  have no : ∀ {s : ByteArray}, inB s.data.toList 126 = false → ∀ i (hi : i < s.size), s[i] ≠ 126 := by
    intro s hs i hi e
    have := inB_yes hi e
    rw [hs] at this; cases this
  refine ⟨by rw [← hl]; exact hn.1, fun i hi => ?_⟩
  have hi' : i < a.size := by omega
  have := hn.2 i hi'
  rw [nickAt_fold i (no ha i hi')] at this
  rw [nickAt_fold i (no hb i hi)]
  have e : foldB a[i] = foldB b[i] := by
    have h0 : (foldL a.data.toList)[i]? = (foldL b.data.toList)[i]? := by rw [h]
    unfold foldL at h0
    rw [List.getElem?_map, List.getElem?_map, List.getElem?_eq_getElem (by simpa using hi'), List.getElem?_eq_getElem (by simpa using hi)] at h0
    exact Option.some.inj h0
  rw [← e]; exact this
theorem nick_chan {s : ByteArray} (h : NickP s) : ¬ ChanP s := by
  rintro ⟨_, ⟨h0, e⟩, _⟩
  have := h.2 0 h0
  have e' : s[0] = 35 := UInt8.toNat_inj.mp e
  rw [e'] at this
  revert this; decide

end Go.Proofs.YtnoeblnljfnecaaDoor
end
section
/- Layer 21: what one parameter of WATCH asks for. -/
namespace Go.Proofs.YtnoeblnljfnecaaDoor
set_option linter.unusedVariables false
set_option linter.unusedSimpArgs false
open Go Go.RowKit Go.Lib

theorem res_two {P : Program} {fn : Func} {p : Tmp} {ty : TypeId} {tmps : Array Value} {V : World} {N : Nat} {a b : Value} (h : fn.results = #[.cell p ty]) (hp : tmps.getD p undef = .pointer (some ⟨N, 0, none⟩)) (hg : (isAgg ty).run P V = .ok true V) (hz : (sizeOf ty).run P V = .ok 2 V)
    (h0 : V.cell? ⟨N, 0, none⟩ = some a) (h1 : V.cell? ⟨N, 1, none⟩ = some b) : (results fn tmps).run P V = .ok (.agg #[a, b]) V := by
  have hp' : tmps[p]?.getD undef = .pointer (some ⟨N, 0, none⟩) := by simpa using hp
  simp [results, h, hp', asAddr, loadVar, Sem.run_bind, hg, hz, loadCells, loadCellsFrom, h0, h1, Result.andThen, go_sem]
def wishR (o : Option WishV) : Value := match o with
  | none => .agg #[.int .u8 0, .string ⟨#[]⟩]
  | some (c, l) => .agg #[.int .u8 c.toNat, .string (bs l)]
theorem u8_ne {c : UInt8} {n : Nat} (hn : n < 256) (h : c ≠ UInt8.ofNat n) : ((c.toNat : Int) == (n : Int)) = false := by
  rw [beq_eq_false_iff_ne]
  intro e
  apply h
  have : c.toNat = n := by omega
  rw [← this]
  simp
theorem tail_bs (s : ByteArray) : bs s.data.toList.tail = s.extract 1 s.size := ba_ext (by
  rw [bs_toList, ba_extract_to]
  cases s.data.toList <;> rfl)
theorem head_bs (s : ByteArray) (h : 0 < s.size) : s.data.toList = s[0] :: s.data.toList.tail := by
  cases hl : s.data.toList with
  | nil => have : s.data.toList.length = s.size := rfl; rw [hl] at this; simp at this; omega
  | cons a r =>
    have : s[0] = s.data.toList[0]'(by rw [hl]; simp) := rfl
    rw [this]
    simp [hl]
set_option maxRecDepth 100000 in
set_option maxHeartbeats 8000000 in
theorem wish_v (s : ByteArray) (w : World) (hs : s.size ≤ 1000000) (hR : Rowed w) :
    Calls Tryd.prog 14 #[.string s] w fun e w' => e = .returned (wishR (wishV s.data.toList)) ∧ Below w.heap.size w w' := by
  have mixed : (Tryd.prog).follows Departure.mixedOrders = true := by kernel_rfl
  have hlet := letter_w s
  obtain ⟨c, hc⟩ : ∃ c, letV s.data.toList = c := ⟨_, rfl⟩
  rw [hc] at hlet
  have hnew := heap_alloc_new w (.cells #[.int .u8 0, .string ⟨#[]⟩] 30)
  obtain ⟨w1, hw1⟩ : ∃ w1, w.alloc (.cells #[.int .u8 0, .string ⟨#[]⟩] 30) = w1 := ⟨_, rfl⟩
  rw [hw1] at hnew
  have b1 : Below w.heap.size w w1 := by rw [← hw1]; exact (Below.refl _ _).alloc (Nat.le_refl _) _
  have HR := Lib.hid (hR.below (Nat.le_refl _) b1)
  have HB := Lib.hid (And.intro b1 hnew)
  have d0 := blk_cell hnew 0
  have d1 := blk_cell hnew 1
  have g0 := blk_free hnew 0
  have g1 := blk_free hnew 1
  have HW := Lib.hid hw1
  have HLT := Lib.hid hlet
  clear hR hw1 b1 hnew hlet
  by_cases h0 : c = 0
  · subst h0
    have hc0 : ((0 : UInt8).toNat : Int) = 0 := rfl
    by_cases hz : 0 < s.size
    · have hh := head_bs s hz
      obtain ⟨x, hx⟩ : ∃ x, s[0] = x := ⟨_, rfl⟩
      rw [hx] at hh
      have hsz1 : (s.extract 1 s.size).size ≤ 1000000 := by simp; omega
      have HN := Lib.hid (nick_v (s.extract 1 s.size) w1 hsz1 HR.out)
      obtain ⟨nb, hnb⟩ : ∃ nb, dec (NickP (s.extract 1 s.size)) = nb := ⟨_, rfl⟩
      rw [hnb] at HN
      have hse := str_ne hz
      have hse2 : (!s.toList.isEmpty) = true := by rw [hse]; rfl
      have hbs := tail_bs s
      have hv : wishV s.data.toList = if (x = 43 ∨ x = 45) ∧ nb = true then some (x, s.data.toList.tail) else none := by
        unfold wishV
        rw [hc, if_neg (by decide)]
        rw [hh]
        dsimp only
        unfold nickB
        rw [List.tail_cons, hbs, hnb]
      have HV := Lib.hid (And.intro hv hbs)
      clear hv hh hbs hnb hc
      by_cases hm : x = 43 ∨ x = 45
      · rcases hm with hm | hm
        · subst hm
          cases nb with
          | true =>
            have hv2 : wishV s.data.toList = some (43, s.data.toList.tail) := by rw [HV.out.1, if_pos ⟨.inl rfl, rfl⟩]
            have HV2 := Lib.hid (And.intro hv2 HV.out.2)
            clear hv2
            go_enter Tryd.func14, Tryd.ntmps14
            go_wp2_with fail
            rw [HW.out]
            refine (HLT.out _).mono ?_
            rintro e w' ⟨rfl, rfl⟩
            go_wp2_with fail
            refine HN.out.mono ?_
            rintro e w' ⟨rfl, rfl⟩
            go_wp2_with fail
            go_region_with (fail)
            all_goals go_wp2_with fail
            all_goals
              obtain ⟨b1, hnew⟩ := HB.out
              obtain ⟨hv, hbs⟩ := HV2.out
              rw [hv]
              have hk := blk_set (blk_set (blk_drew hnew) 0 (.int .u8 43)) 1 (.string (s.extract 1 s.size))
              refine bodyPost_ret (v := .agg #[.int .u8 43, .string (s.extract 1 s.size)]) (res_two rfl rfl (by kernel_rfl) (by kernel_rfl) (blk_cell hk 0) (blk_cell hk 1)) rfl ⟨by rw [← hbs]; rfl, ?_⟩
              exact (b1.drew.setCell (Nat.le_refl _) _).setCell (Nat.le_refl _) _
          | false =>
            have hv2 : wishV s.data.toList = none := by rw [HV.out.1, if_neg (by simp)]
            have HV2 := Lib.hid hv2
            clear hv2
            go_enter Tryd.func14, Tryd.ntmps14
            go_wp2_with fail
            rw [HW.out]
            refine (HLT.out _).mono ?_
            rintro e w' ⟨rfl, rfl⟩
            go_wp2_with fail
            refine HN.out.mono ?_
            rintro e w' ⟨rfl, rfl⟩
            go_wp2_with fail
            obtain ⟨b1, hnew⟩ := HB.out
            rw [HV2.out]
            refine bodyPost_ret (v := .agg #[.int .u8 0, .string ⟨#[]⟩]) (res_two rfl rfl (by kernel_rfl) (by kernel_rfl) (by first | exact blk_cell hnew 0 | exact blk_cell (blk_set (blk_set hnew 0 (.int .u8 0)) 1 (.string ⟨#[]⟩)) 0) (by first | exact blk_cell hnew 1 | exact blk_cell (blk_set (blk_set hnew 0 (.int .u8 0)) 1 (.string ⟨#[]⟩)) 1)) rfl ⟨rfl, ?_⟩
            first | exact b1 | exact (b1.setCell (Nat.le_refl _) _).setCell (Nat.le_refl _) _
        · subst hm
          cases nb with
          | true =>
            have hv2 : wishV s.data.toList = some (45, s.data.toList.tail) := by rw [HV.out.1, if_pos ⟨.inr rfl, rfl⟩]
            have HV2 := Lib.hid (And.intro hv2 HV.out.2)
            clear hv2
            go_enter Tryd.func14, Tryd.ntmps14
            go_wp2_with fail
            rw [HW.out]
            refine (HLT.out _).mono ?_
            rintro e w' ⟨rfl, rfl⟩
            go_wp2_with fail
            refine HN.out.mono ?_
            rintro e w' ⟨rfl, rfl⟩
            go_wp2_with fail
            go_region_with (fail)
            all_goals go_wp2_with fail
            all_goals
              obtain ⟨b1, hnew⟩ := HB.out
              obtain ⟨hv, hbs⟩ := HV2.out
              rw [hv]
              have hk := blk_set (blk_set (blk_drew hnew) 0 (.int .u8 45)) 1 (.string (s.extract 1 s.size))
              refine bodyPost_ret (v := .agg #[.int .u8 45, .string (s.extract 1 s.size)]) (res_two rfl rfl (by kernel_rfl) (by kernel_rfl) (blk_cell hk 0) (blk_cell hk 1)) rfl ⟨by rw [← hbs]; rfl, ?_⟩
              exact (b1.drew.setCell (Nat.le_refl _) _).setCell (Nat.le_refl _) _
          | false =>
            have hv2 : wishV s.data.toList = none := by rw [HV.out.1, if_neg (by simp)]
            have HV2 := Lib.hid hv2
            clear hv2
            go_enter Tryd.func14, Tryd.ntmps14
            go_wp2_with fail
            rw [HW.out]
            refine (HLT.out _).mono ?_
            rintro e w' ⟨rfl, rfl⟩
            go_wp2_with fail
            refine HN.out.mono ?_
            rintro e w' ⟨rfl, rfl⟩
            go_wp2_with fail
            obtain ⟨b1, hnew⟩ := HB.out
            rw [HV2.out]
            refine bodyPost_ret (v := .agg #[.int .u8 0, .string ⟨#[]⟩]) (res_two rfl rfl (by kernel_rfl) (by kernel_rfl) (by first | exact blk_cell hnew 0 | exact blk_cell (blk_set (blk_set hnew 0 (.int .u8 0)) 1 (.string ⟨#[]⟩)) 0) (by first | exact blk_cell hnew 1 | exact blk_cell (blk_set (blk_set hnew 0 (.int .u8 0)) 1 (.string ⟨#[]⟩)) 1)) rfl ⟨rfl, ?_⟩
            first | exact b1 | exact (b1.setCell (Nat.le_refl _) _).setCell (Nat.le_refl _) _
      · have q1 : ((x.toNat : Int) == 43) = false := u8_ne (c := x) (n := 43) (by omega) (fun e => hm (.inl e))
        have q2 : ((x.toNat : Int) == 45) = false := u8_ne (c := x) (n := 45) (by omega) (fun e => hm (.inr e))
        have hv2 : wishV s.data.toList = none := by rw [HV.out.1, if_neg (fun e => hm e.1)]
        have HV2 := Lib.hid hv2
        clear hm hv2
        go_enter Tryd.func14, Tryd.ntmps14
        go_wp2_with fail
        rw [HW.out]
        refine (HLT.out _).mono ?_
        rintro e w' ⟨rfl, rfl⟩
        go_wp2_with fail
        obtain ⟨b1, hnew⟩ := HB.out
        rw [HV2.out]
        refine bodyPost_ret (v := .agg #[.int .u8 0, .string ⟨#[]⟩]) (res_two rfl rfl (by kernel_rfl) (by kernel_rfl) (by first | exact blk_cell hnew 0 | exact blk_cell (blk_set (blk_set hnew 0 (.int .u8 0)) 1 (.string ⟨#[]⟩)) 0) (by first | exact blk_cell hnew 1 | exact blk_cell (blk_set (blk_set hnew 0 (.int .u8 0)) 1 (.string ⟨#[]⟩)) 1)) rfl ⟨rfl, ?_⟩
        first | exact b1 | exact (b1.setCell (Nat.le_refl _) _).setCell (Nat.le_refl _) _
    · have hs0 : s = ⟨#[]⟩ := ba_ext (by
        have : s.data.toList.length = s.size := rfl
        have h2 : s.data.toList = [] := List.length_eq_zero_iff.1 (by omega)
        rw [h2])
      subst hs0
      clear hc
      go_enter Tryd.func14, Tryd.ntmps14
      go_wp2_with fail
      rw [HW.out]
      refine (HLT.out _).mono ?_
      rintro e w' ⟨rfl, rfl⟩
      go_wp2_with fail
      obtain ⟨b1, hnew⟩ := HB.out
      rw [show wishV (⟨#[]⟩ : ByteArray).data.toList = none by unfold wishV; rw [if_neg (by decide)]]
      refine bodyPost_ret (v := .agg #[.int .u8 0, .string ⟨#[]⟩]) (res_two rfl rfl (by kernel_rfl) (by kernel_rfl) (by first | exact blk_cell hnew 0 | exact blk_cell (blk_set (blk_set hnew 0 (.int .u8 0)) 1 (.string ⟨#[]⟩)) 0) (by first | exact blk_cell hnew 1 | exact blk_cell (blk_set (blk_set hnew 0 (.int .u8 0)) 1 (.string ⟨#[]⟩)) 1)) rfl ⟨rfl, ?_⟩
      first | exact b1 | exact (b1.setCell (Nat.le_refl _) _).setCell (Nat.le_refl _) _
  · have q1 : ((c.toNat : Int) == 0) = false := u8_ne (n := 0) (by omega) h0
    have hv : wishV s.data.toList = some (c, []) := by unfold wishV; rw [hc, if_pos h0]
    have HV := Lib.hid hv
    clear hv h0 hc
    go_enter Tryd.func14, Tryd.ntmps14
    go_wp2_with fail
    rw [HW.out]
    refine (HLT.out _).mono ?_
    rintro e w' ⟨rfl, rfl⟩
    go_wp2_with fail
    obtain ⟨b1, hnew⟩ := HB.out
    have hk := blk_set (blk_set hnew 0 (.int .u8 c.toNat)) 1 (.string ⟨#[]⟩)
    rw [HV.out]
    refine bodyPost_ret (v := .agg #[.int .u8 c.toNat, .string ⟨#[]⟩]) (res_two rfl rfl (by kernel_rfl) (by kernel_rfl) (blk_cell hk 0) (blk_cell hk 1)) rfl ⟨rfl, ?_⟩
    exact (b1.setCell (Nat.le_refl _) _).setCell (Nat.le_refl _) _
end Go.Proofs.YtnoeblnljfnecaaDoor
end
section
/- A box with a row of texts of the call's own. -/
namespace Go.Proofs.YtnoeblnljfnecaaDoor
open Go Go.RowKit

/-- box S holds the row; its blocks are X -/
def BoxB (S base : Nat) (xs : List (List UInt8)) (X : Nat → Prop) (W : World) : Prop := ∃ v, W.heap[S]? = some (.cells #[v] 22 (0, 0)) ∧ OwnT base W v xs ∧ S < base ∧ ∀ k, X k ↔ (k = S ∨ v.ownBlock = some k)
theorem boxB_stays (S base : Nat) (xs : List (List UInt8)) : ∀ X V V', BoxB S base xs X V → (∀ k, X k → k < V.heap.size) → Fr (fun k => ¬ X k) V V' → BoxB S base xs X V' := fun X V V' ⟨v, h1, h2, h3, h4⟩ hl hf =>
  ⟨v, hf.blk h1 (fun e => e ((h4 S).2 (.inl rfl))), ownT_kept h2 fun g hg => hf.block g (h2.lt g hg).2 fun e => e ((h4 g).2 (.inr hg)), h3, h4⟩
/-- a text is put behind the row: what the round leaves -/
theorem boxB_put {S base l : Nat} {rb : Loop} {xs : List (List UInt8)} {x : List UInt8} {X1 : Nat → Prop} {V Vb W2 : World} {vb v1 : Value} (hG : ∀ k, X1 k → k < V.heap.size) (hX1 : ∀ k, X1 k ↔ (k = S ∨ vb.ownBlock = some k)) (hxl : ¬ X1 l) (hfb : Fr (fun k => k = l) V Vb) (hrb : Vb.heap[l]? = some (.loop rb)) (k3b : Vb.heap[S]? = some (.cells #[vb] 22 (0, 0))) (o3b : OwnT base Vb vb xs) (hzs : V.heap.size ≤ Vb.heap.size) (hSl : S < base)
    (hown1 : W2.ownsRow base 9 1 v1 (xs.length + 1) (xs.map encT ++ [encT x])) (hfr1 : Fr (fun k => vb.ownBlock = some k) Vb W2) (htie : ∀ k, v1.ownBlock = some k → vb.ownBlock = some k ∨ Vb.heap.size ≤ k) :
    ∃ X2, GrowX X1 X2 V (W2.setCell ⟨S, 0, none⟩ v1) ∧ Fr (fun k => k = l ∨ X1 k) V (W2.setCell ⟨S, 0, none⟩ v1) ∧ (W2.setCell ⟨S, 0, none⟩ v1).heap[l]? = some (.loop rb) ∧ BoxB S base (xs ++ [x]) X2 (W2.setCell ⟨S, 0, none⟩ v1) := by
  have hn3 : ∀ k, vb.ownBlock = some k → k ≠ S := fun k hk e => by have := (o3b.lt k hk).1; omega
  have e1 : W2.heap[S]? = some (.cells #[vb] 22 (0, 0)) := hfr1.blk k3b fun e => hn3 _ e rfl
  have hown2 : OwnT base W2 v1 (xs ++ [x]) := ownT_snoc hown1
  have hnx : v1.ownBlock ≠ some S := fun e => by have := (hown2.lt _ e).1; omega
  have hlS : l ≠ S := fun e => hxl ((hX1 l).2 (.inl e))
  have hl3 : ¬ vb.ownBlock = some l := fun e => hxl ((hX1 l).2 (.inr e))
  have hsz : (W2.setCell ⟨S, 0, none⟩ v1).heap.size = W2.heap.size := by simp
  refine ⟨fun k => k = S ∨ v1.ownBlock = some k, fun k hk => ?_, (((hfb.mono (Y := fun k => k = l ∨ X1 k) fun k _ e => .inl e).trans3 hfr1 fun k _ e => .inr ((hX1 k).2 (.inr e)))).setCell _ (.inr ((hX1 _).2 (.inl rfl))) _, blk_other (hfr1.blk hrb hl3) _ (by simpa using hlS) _, v1, blk_set e1 0 _, ?_, hSl, fun k => Iff.rfl⟩
  · rw [hsz]
    rcases hk with rfl | hk
    · exact ⟨blk_lt e1, fun _ => (hX1 _).2 (.inl rfl)⟩
    · refine ⟨(hown2.lt k hk).2, fun hlt => ?_⟩
      rcases htie k hk with e | e
      · exact (hX1 k).2 (.inr e)
      · omega
  · exact ownT_kept hown2 fun g hg => heap_setCell_other W2 _ g _ fun e => by simp at e; exact hnx (e ▸ hg)
/-- nothing is put -/
theorem boxB_skip {S base l : Nat} {rb : Loop} {xs : List (List UInt8)} {X1 : Nat → Prop} {V Vb : World} {vb : Value} (hG : ∀ k, X1 k → k < V.heap.size) (hX1 : ∀ k, X1 k ↔ (k = S ∨ vb.ownBlock = some k)) (hfb : Fr (fun k => k = l) V Vb) (hrb : Vb.heap[l]? = some (.loop rb)) (k3b : Vb.heap[S]? = some (.cells #[vb] 22 (0, 0))) (o3b : OwnT base Vb vb xs) (hSl : S < base) :
    ∃ X2, GrowX X1 X2 V Vb ∧ Fr (fun k => k = l ∨ X1 k) V Vb ∧ Vb.heap[l]? = some (.loop rb) ∧ BoxB S base xs X2 Vb :=
  ⟨X1, fun k hk => ⟨Nat.lt_of_lt_of_le (hG k hk) hfb.size, fun _ => hk⟩, hfb.mono (Y := fun k => k = l ∨ X1 k) fun k _ e => .inl e, hrb, vb, k3b, o3b, hSl, hX1⟩
end Go.Proofs.YtnoeblnljfnecaaDoor
end
section
/- Layer 21: the nicknames between commas. -/
namespace Go.Proofs.YtnoeblnljfnecaaDoor
set_option linter.unusedVariables false
set_option linter.unusedSimpArgs false
open Go Go.RowKit Go.Lib Go.Shelf
attribute [local go_sem] Oper.semAt_some

/-- a row of texts of the call's own is returned -/
def RowR (xs : List (List UInt8)) (w : World) (e : Ending) (w' : World) : Prop := (∃ A c, e = .returned (.slice A xs.length c) ∧ OwnT w.heap.size w' (.slice A xs.length c) xs) ∧ RowKit.Below w.heap.size w w'
theorem Rowed.same {w w' : World} (h : Rowed w) (hs : w'.heap[(0 : Nat)]? = w.heap[(0 : Nat)]?) : Rowed w' := fun i hi => by
  obtain ⟨s, h1, h2⟩ := h i hi
  exact ⟨s, (World.cell?_of_block (w := w) (w' := w') (a := ⟨_, i, none⟩) hs).trans h1, h2⟩
theorem Rowed.lt {w : World} (h : Rowed w) : 0 < w.heap.size := by
  obtain ⟨s, h1, _⟩ := h 0 (by decide)
  unfold World.cell? at h1
  cases hb : w.heap[(0 : Nat)]? with
  | none => simp [hb] at h1
  | some o => exact (Array.getElem?_eq_some_iff.1 hb).1
set_option maxRecDepth 100000 in
set_option maxHeartbeats 8000000 in
theorem nicks_v (s : ByteArray) (w : World) (hs : s.size ≤ 1000) (hR : Rowed w) : Calls Tryd.prog 10 #[.string s] w (RowR (nicksV s.data.toList) w) := by
  obtain ⟨i0, hi, hz0, hz1, hz2⟩ := info_parts Tryd.infoT
  refine (callsIn_wide (n := 20)).1 ?_
  refine callsIn_of_wp_marks Tryd.func10 rfl trivial ?_ rfl
  simp only [Tryd.ntmps10, List.size_toArray, List.length_cons, List.length_nil, Nat.reduceAdd, Nat.reduceSub, Array.replicate_succ, Array.replicate_zero, List.push_toArray, List.append_toArray, List.nil_append, List.cons_append]
  gi_wp2_with fail
  refine wpIn_scope ?_
  gi_wp2_with fail
  refine wpIn_label ?_
  gi_wp2_with fail
  refine ⟨trivial, (calls_wide (.inl rfl) (splitc_any s 44 _)).mono ?_⟩
  rintro e w2 ⟨rfl, hw2⟩
  obtain ⟨S, hS⟩ : ∃ S, w.heap.size = S := ⟨_, rfl⟩
  rw [World.size_alloc, hS]
  have kS : w2.heap[S]? = some (.cells #[.slice none 0 0] 22 (0, 0)) := by rw [hw2, ← hS]; exact blk_alloc (blk_alloc (blk_alloc (heap_alloc_new w _) _) _) _
  have kB : SplB (S + 1) 44 s w2 := by
    rw [hw2]
    obtain ⟨u, hu⟩ : ∃ u, w.alloc (.cells #[.slice none 0 0] 22) = u := ⟨_, rfl⟩
    have hz : u.heap.size = S + 1 := by rw [← hu, ← hS]; simp
    rw [hu, ← hz]
    refine ⟨blk_alloc (blk_alloc (heap_alloc_new u _) _) _, blk_alloc (heap_alloc2_new u _ _) _, ?_⟩
    have := heap_alloc2_new (u.alloc (.cells #[.string s] 9)) (.cells #[.string ⟨#[44]⟩] 9) (.cells #[.int .i64 0] 3)
    rwa [World.size_alloc] at this
  have f2 : Fr (fun _ => False) w w2 := by rw [hw2]; exact ((((Fr.refl _ w).alloc _).alloc _).alloc _).alloc _
  have z2 : w2.heap.size = S + 4 := by rw [hw2, ← hS]; simp
  have hR2 := hR.same (f2.block _ hR.lt fun e => e)
  have hRl := hR.lt
  rw [hS] at hRl
  have H := Lib.hid (And.intro kS (And.intro kB (And.intro f2 (And.intro z2 (And.intro hR2 (And.intro hRl hS))))))
  have hlen : (splitC 44 s.data.toList).length ≤ 1001 := Nat.le_trans (splitC_len 44 _) (by have : s.data.toList.length = s.size := rfl; omega)
  have hpl : ∀ p ∈ splitC 44 s.data.toList, p.length ≤ 1000 := fun p hp => Nat.le_trans (splitC_mem_len 44 _ p hp) hs
  have HL := Lib.hid (And.intro hlen hpl)
  clear hw2 kS kB f2 z2 hR2 hRl hS hR hlen hpl
  gi_wp2_with fail
  obtain ⟨kS, kB, f2, z2, hR2, hRl, hS⟩ := H.out
  refine wpIn_rangeZ (X := fun k => k = S) (Y := fun b => b = S + 1 + 1 ∨ b = S + 1 + 1 + 1) (Z := fun b => b = S + 1) (xs := splitC 44 s.data.toList) (encs := encL) (gf := 24) (lb := #[.pointer (some ⟨S + 1 + 1, 0, none⟩), .pointer (some ⟨S + 1, 0, none⟩), .pointer (some ⟨S + 1 + 1 + 1, 0, none⟩)]) (fun pre X W => BoxB S w2.heap.size (pre.filter nickB) X W) (fun _ _ _ _ => False)
    rfl (split_seqZ (S + 1) 44 s w2 (by omega) kB) (fun k hk => ⟨by omega, fun e => by omega⟩) (fun b hb => by omega) (by omega) (enters_of Tryd.func24 (by kernel_rfl) rfl) (fun _ => rfl)
    (fun s => boxB_stays _ _ _) (fun c s X1 V1 V2 h => h.elim) ⟨_, kS, ownT_nil _ _, by omega, fun k => by simp [Value.ownBlock]⟩ ?round ?done (fun _ _ _ _ _ _ _ _ _ _ _ h => h.elim)
  case round =>
    rintro l pre x r X1 V K rb hl2 hpx hI hG hxl hF hlV hK
    dsimp only [encL]
    have HK := Lib.hid hK
    have HV := Lib.hid (And.intro hpx (And.intro hI (And.intro hG (And.intro hxl (And.intro hF (And.intro hlV hl2))))))
    clear hK hpx hI hG hxl hF hlV hl2 f2 kS kB z2 hR2 hRl hS
    gi_wp2_with fail
    refine HK.out _ _ (Fr.refl _ _) fun Vb hfb hzb hsb hrb => ?_
    clear HK K
    obtain ⟨hpx, ⟨vb, k3, o3, hSl, hX1⟩, hG, hxl, hF, hlV, hl2⟩ := HV.out
    obtain ⟨kS, kB, f2, z2, hR2, hRl, hS⟩ := H.out
    have hmem : x ∈ splitC 44 s.data.toList := by rw [← hpx]; exact List.mem_append_right _ List.mem_cons_self
    have hxs := HL.out.2 x hmem
    have hpl : (pre.filter nickB).length ≤ 1001 := by
      have h1 := List.length_filter_le nickB pre
      have h2 := congrArg List.length hpx
      rw [List.length_append] at h2
      have := HL.out.1
      omega
    have k3b := hfb.blk k3 (fun e => hxl ((hX1 l).2 (.inl e.symm)))
    have o3b : OwnT w2.heap.size Vb vb (pre.filter nickB) := ownT_kept o3 fun g hg => hfb.block g (o3.lt g hg).2 fun e => hxl ((hX1 l).2 (.inr (e ▸ hg)))
    have c3 := blk_cell k3b 0
    have hzs : Vb.heap.size = V.heap.size := hzb
    have hbz : w2.heap.size ≤ Vb.heap.size := by omega
    have hRb : Rowed Vb := hR2.same ((hfb.block _ (by have := hF.size; omega) (by omega)).trans (hF.block _ (by omega) (by omega)))
    have hnk := nick_v (bs x) Vb (by rw [bs_size]; omega) hRb
    obtain ⟨b, hb⟩ : ∃ b, nickB x = b := ⟨_, rfl⟩
    rw [show dec (NickP (bs x)) = b from hb] at hnk
    have HN := Lib.hid hnk
    have HE := Lib.hid (And.intro hX1 (And.intro hG (And.intro hxl (And.intro hfb (And.intro hrb (And.intro k3b (And.intro o3b (And.intro hzs (And.intro hlV (And.intro hSl (And.intro hl2 hb)))))))))))
    clear hpx k3 o3 hSl hX1 hG hxl hF hlV hl2 f2 kS kB z2 hR2 hRl hS k3b o3b hfb hzb hsb hrb hzs hRb hnk hmem hxs hb
    gi_wp2_with fail
    refine ⟨trivial, (calls_wide (.inr ⟨l, rfl⟩) HN.out).mono ?_⟩
    rintro e W5 ⟨rfl, rfl⟩
    cases b with
    | false =>
      gi_wp2_with fail
      obtain ⟨hX1, hG, hxl, hfb, hrb, k3b, o3b, hzs, hlV, hSl, hl2, hb⟩ := HE.out
      obtain ⟨X2, a1, a2, a3, a4⟩ := boxB_skip (fun k hk => (hG k hk).1) hX1 hfb hrb k3b o3b hSl
      refine ⟨X2, a1, a2, a3, ?_⟩
      dsimp only
      rw [List.filter_append, List.filter_cons_of_neg (by rw [hb]; decide), List.filter_nil, List.append_nil]
      exact a4
    | true =>
      have hor : Vb.ownsRow w2.heap.size 9 1 vb (pre.filter nickB).length ((pre.filter nickB).map encT) := HE.out.2.2.2.2.2.2.1
      have HO := Lib.hid hor
      clear hor
      gi_wp2_with (gi_at_builtin; refine Hid.out ?_)
      refine Lib.hid ?_
      refine wpListIn_one_t rfl _ _ 22 rfl w2.heap.size 9 i0 _ 1 16 Tryd.underlying22 hi hz0 hz1 hz2 rfl (by decide) _ _ _ rfl HO.out #[.string (bs x)] _ rfl rfl rfl (by intro u hu; simp at hu; subst hu; rfl) (by omega) (by decide) hbz ?_
      intro v1 W2 hown1 hfr1 htie
      obtain ⟨A1, c1', rfl⟩ := row_slice hown1
      have hn3 : ∀ k, vb.ownBlock = some k → k ≠ S := fun k hk e => by have := (HO.out.lt k hk).1; have := HE.out.2.2.2.2.2.2.2.2.2.1; omega
      have e1 : W2.heap[S]? = some (.cells #[vb] 22 (0, 0)) := hfr1.blk HE.out.2.2.2.2.2.1 fun e => hn3 _ e rfl
      have g1 := blk_cell e1 0
      have g2 := blk_free e1 0
      clear hn3
      gi_wp2_with fail
      obtain ⟨hX1, hG, hxl, hfb, hrb, k3b, o3b, hzs, hlV, hSl, hl2, hb⟩ := HE.out
      obtain ⟨X2, a1, a2, a3, a4⟩ := boxB_put (fun k hk => (hG k hk).1) hX1 hxl hfb hrb k3b o3b (by omega) hSl hown1 hfr1 htie
      refine ⟨X2, a1, a2, a3, ?_⟩
      dsimp only
      rw [List.filter_append, List.filter_cons_of_pos (by rw [hb]), List.filter_nil]
      exact a4
  case done =>
    rintro D X2 V hD hxD hG hF ⟨u, k3, o3, hSl, hX2⟩ hdef
    obtain ⟨A, cp, rfl⟩ := row_slice o3
    have c3 := blk_cell k3 0
    have hbV : RowKit.Below w.heap.size w V := ((f2.mono (Y := fun k => S ≤ k) fun _ _ e => e.elim).trans3 hF fun k _ e => by omega).below (Nat.le_refl _) fun k hk e => absurd (show S ≤ k from e) (by omega)
    have HE := Lib.hid (And.intro hbV (And.intro hdef (And.intro o3 (And.intro z2 (And.intro hxD hX2)))))
    obtain ⟨n3, hn3⟩ : ∃ n3, (List.filter nickB (splitC 44 s.data.toList)).length = n3 := ⟨_, rfl⟩
    rw [hn3] at c3
    have HN3 := Lib.hid hn3
    clear k3 o3 hF hdef hxD hX2 hSl hG f2 kS kB z2 hR2 hRl hbV hn3
    gi_wp2_with fail
    rw [noGoto_ret']
    obtain ⟨hbV, hdef, o3, z2, hxD, hX2⟩ := HE.out
    refine leaves_one D _ hdef fun w' hf => ⟨_, results_tmp rfl _ _ _, ⟨A, cp, ?_, ?_⟩, hbV.trans (hf.below hbV.size fun k hk e => by omega)⟩
    · unfold nicksV
      rw [HN3.out]
      rfl
    · exact ownT_base (ownT_kept o3 fun g hg => hf.block g (o3.lt g hg).2 fun e => hxD ((hX2 D).2 (.inr (e ▸ hg)))) (by omega)
end Go.Proofs.YtnoeblnljfnecaaDoor
end
section
/- Layer 21: Monitor. -/
namespace Go.Proofs.YtnoeblnljfnecaaDoor
set_option linter.unusedVariables false
set_option linter.unusedSimpArgs false
open Go Go.RowKit Go.Lib Go.Shelf

theorem undrew {W W' : World} (h : RowKit.Below W.drew.heap.size W.drew W') : RowKit.Below W.heap.size W W' := ⟨h.os, h.tape, h.output, h.size, h.block⟩
theorem names_ops {p q : List UInt8} {r : List (List UInt8)} (h : p = [43] ∨ p = [45]) : namesM (p :: q :: r) = nicksV q := if_pos h
def MonP (ps : List (List UInt8)) (w : World) (e : Ending) (w' : World) : Prop := (∃ A c, e = .returned (.tuple #[.int .u8 (opM ps).toNat, .slice A (namesM ps).length c]) ∧ OwnT w.heap.size w' (.slice A (namesM ps).length c) (namesM ps)) ∧ RowKit.Below w.heap.size w w'
theorem mon_nil {ps : List (List UInt8)} {w : World} {op : Int} (h1 : namesM ps = []) (h2 : ((opM ps).toNat : Int) = op) : MonP ps w (.returned (.tuple #[.int .u8 op, .slice none 0 0])) w := by
  subst h2
  refine ⟨⟨none, 0, by rw [h1]; rfl, ?_⟩, Below.refl _ _⟩
  rw [h1]
  exact ownT_nil _ _
set_option maxRecDepth 100000 in
set_option maxHeartbeats 8000000 in
theorem mon_v (A : Option Addr) (c : Nat) (ps : List (List UInt8)) (w : World) (hl : ps.length ≤ 1000) (hp : ∀ p ∈ ps, p.length ≤ 1000) (hr : ReadsT w A ps) (hR : Rowed w) :
    Calls Tryd.prog 5 #[.slice A ps.length c] w (MonP ps w) := by
  have mixed : (Tryd.prog).follows Departure.mixedOrders = true := by kernel_rfl
  obtain ⟨R, hRR⟩ : ∃ R, MonP ps w = R := ⟨_, rfl⟩
  rw [hRR]
  have HR := Lib.hid hRR
  clear hRR
  rcases ps with _ | ⟨p, r⟩
  · clear hr hR hp hl
    go_enter Tryd.func5, Tryd.ntmps5
    go_wp2_with fail
    rw [← HR.out]
    exact mon_nil rfl rfl
  · obtain ⟨g, o, rfl, hg, hc⟩ := hr (by simp)
    have c0 := hc 0 (by simp)
    rw [Nat.add_zero] at c0
    simp only [List.getElem_cons_zero] at c0
    obtain ⟨n, hn⟩ : ∃ n, (p :: r).length = n := ⟨_, rfl⟩
    have hn0 : (0 : Int) < (n : Int) := by rw [← hn]; simp
    have hn1 : ¬ (n : Int) = 0 := by omega
    have hn2 : ((n : Int) == 0) = false := by simpa using hn1
    have HC := Lib.hid (And.intro hc (And.intro hp hn))
    rw [hn] at hl ⊢
    by_cases h43 : p = [43] ∨ p = [45]
    · rcases h43 with rfl | rfl
      · replace c0 : w.cell? ⟨g, o, none⟩ = some (.string ⟨#[43]⟩) := c0
        rcases r with _ | ⟨q, r⟩
        · obtain rfl : n = 1 := hn.symm
          clear hc hg hp hn hn1 hr hR
          go_enter Tryd.func5, Tryd.ntmps5
          go_wp2_with fail
          rw [← HR.out]
          exact mon_nil rfl rfl
        · have c1 := hc 1 (by simp)
          simp only [List.getElem_cons_succ, List.getElem_cons_zero] at c1
          have hq := hp q (by simp)
          have hn3 : (1 : Int) < (n : Int) := by rw [← hn]; simp; omega
          have hn4 : ((n : Int) == 1) = false := by rw [beq_eq_false_iff_ne]; omega
          have hn5 : ¬ (n : Int) = 1 := by omega
          have hRd : Rowed w.drew := hR.same rfl
          have hnk := nicks_v (bs q) w.drew (by rw [bs_size]; omega) hRd
          rw [bs_toList] at hnk
          have HN := Lib.hid hnk
          have HRw := Lib.hid hRd
          clear hc hg hp hn hn1 hr hR hq hnk hRd
          go_enter Tryd.func5, Tryd.ntmps5
          go_wp2_with fail
          go_region_with (first | ((with_reducible refine HN.out.mono ?_); rintro e w5 ⟨⟨A5, c5, rfl, o5⟩, b5⟩; have H5 := Lib.hid (And.intro o5 b5); clear o5 b5) | fail)
          all_goals
            go_wp2_with fail
            rw [← HR.out]
            go_ret2
            exact ⟨⟨A5, c5, by rw [names_ops (by simp)]; rfl, by rw [names_ops (by simp)]; exact H5.out.1⟩, undrew H5.out.2⟩
      · replace c0 : w.cell? ⟨g, o, none⟩ = some (.string ⟨#[45]⟩) := c0
        rcases r with _ | ⟨q, r⟩
        · obtain rfl : n = 1 := hn.symm
          clear hc hg hp hn hn1 hr hR
          go_enter Tryd.func5, Tryd.ntmps5
          go_wp2_with fail
          rw [← HR.out]
          exact mon_nil rfl rfl
        · have c1 := hc 1 (by simp)
          simp only [List.getElem_cons_succ, List.getElem_cons_zero] at c1
          have hq := hp q (by simp)
          have hn3 : (1 : Int) < (n : Int) := by rw [← hn]; simp; omega
          have hn4 : ((n : Int) == 1) = false := by rw [beq_eq_false_iff_ne]; omega
          have hn5 : ¬ (n : Int) = 1 := by omega
          have hRd : Rowed w.drew := hR.same rfl
          have hnk := nicks_v (bs q) w.drew (by rw [bs_size]; omega) hRd
          rw [bs_toList] at hnk
          have HN := Lib.hid hnk
          have HRw := Lib.hid hRd
          clear hc hg hp hn hn1 hr hR hq hnk hRd
          go_enter Tryd.func5, Tryd.ntmps5
          go_wp2_with fail
          go_region_with (first | ((with_reducible refine HN.out.mono ?_); rintro e w5 ⟨⟨A5, c5, rfl, o5⟩, b5⟩; have H5 := Lib.hid (And.intro o5 b5); clear o5 b5) | fail)
          all_goals
            go_wp2_with fail
            rw [← HR.out]
            go_ret2
            exact ⟨⟨A5, c5, by rw [names_ops (by simp)]; rfl, by rw [names_ops (by simp)]; exact H5.out.1⟩, undrew H5.out.2⟩
    · have hs0 : bs p ≠ ⟨#[43]⟩ := fun e => h43 (.inl (by have := congrArg (fun x : ByteArray => x.data.toList) e; simpa using this))
      have hs1 : bs p ≠ ⟨#[45]⟩ := fun e => h43 (.inr (by have := congrArg (fun x : ByteArray => x.data.toList) e; simpa using this))
      have hlet := fun W => letter_w (bs p) W
      rw [bs_toList] at hlet
      have hM1 : namesM (p :: r) = [] := by
        unfold namesM
        cases r with
        | nil => rfl
        | cons q r' => dsimp only; rw [if_neg h43]
      have hM2 : opM (p :: r) = letV p := by
        unfold opM
        dsimp only
        rw [if_neg (fun e => h43 (.inl e)), if_neg (fun e => h43 (.inr e))]
      obtain ⟨sp, hsp⟩ : ∃ sp, bs p = sp := ⟨_, rfl⟩
      rw [hsp] at c0 hs0 hs1
      simp only [hsp] at hlet
      have q1 : (sp.toList == [43]) = false := by
        rw [beq_eq_false_iff_ne, ByteArray.toList_eq]
        exact fun e => hs0 (ba_ext e)
      have q2 : (sp.toList == [45]) = false := by
        rw [beq_eq_false_iff_ne, ByteArray.toList_eq]
        exact fun e => hs1 (ba_ext e)
      have HL := Lib.hid hlet
      have HM := Lib.hid (And.intro hM1 hM2)
      clear hc hg hp hn hn1 hr hR hs0 hs1 hsp hlet hM1 hM2 h43
      go_enter Tryd.func5, Tryd.ntmps5
      go_wp2_with fail
      refine (HL.out _).mono ?_
      rintro e w' ⟨rfl, rfl⟩
      go_wp2_with fail
      rw [← HR.out]
      exact mon_nil HM.out.1 (by rw [HM.out.2])
end Go.Proofs.YtnoeblnljfnecaaDoor
end
section
/- Layer 21: Watch. -/
namespace Go.Proofs.YtnoeblnljfnecaaDoor
set_option linter.unusedVariables false
set_option linter.unusedSimpArgs false
open Go Go.RowKit Go.Lib Go.Shelf

theorem Tryd.infoWi : (Tryd.prog.info? 30).map (fun i => (i.zero, i.size, i.bytes)) = some (some (.agg #[.int .u8 0, .string ByteArray.empty]), 2, 24) := by kernel_rfl
def encW (x : WishV) : List Value := [.int .u8 x.1.toNat, .string (bs x.2)]
def OwnW (base : Nat) (W : World) (v : Value) (xs : List WishV) : Prop := W.ownsRow base 30 2 v xs.length (xs.flatMap encW)
theorem ownW_nil (base : Nat) (w : World) : OwnW base w (.slice none 0 0) [] := World.ownsRow_nil _ _ _ _
theorem ownW_kept {base : Nat} {w W : World} {v : Value} {xs : List WishV} (h : OwnW base w v xs) (hs : ∀ g, v.ownBlock = some g → W.heap[g]? = w.heap[g]?) : OwnW base W v xs := row_same h hs
def ReadsWi (w : World) (A : Option Addr) (xs : List WishV) : Prop := 0 < xs.length → ∃ g o, A = some ⟨g, o, none⟩ ∧ g < w.heap.size ∧ ∀ j (h : j < xs.length), w.cell? ⟨g, o + j * 2, none⟩ = some (.int .u8 xs[j].1.toNat) ∧ w.cell? ⟨g, o + j * 2 + 1, none⟩ = some (.string (bs xs[j].2))
theorem reads_ownW {base : Nat} {w : World} {A : Option Addr} {n c : Nat} {xs : List WishV} (h : OwnW base w (.slice A n c) xs) : ReadsWi w A xs := fun h0 => by
  have h' := h
  rcases h.2 with ⟨h1, h2⟩ | ⟨g, cap, cur, h1, h3, h4, h5, _, h6, h7⟩
  · omega
  · injection h1 with q1 q2 q3
    subst q1
    have hadd : ∀ j, (⟨g, 0, none⟩ : Addr).add j = ⟨g, 0 + j, none⟩ := fun j => by
      unfold Addr.add
      split
      · simp_all
      · rfl
    have key : ∀ t u, (xs.flatMap encW)[t]? = some u → w.cell? ⟨g, 0 + t, none⟩ = some u := fun t u ht => by
      have := h'.cells (g := g) rfl t u ht
      rwa [hadd] at this
    have fm : ∀ (xs : List WishV) t, t < xs.length * 2 → (xs.flatMap encW)[t]? = (encW (xs.getD (t / 2) (0, [])))[t % 2]? := fun xs => by
      induction xs with
      | nil => intro t ht; simp at ht
      | cons a r ih =>
        intro t ht
        rw [List.flatMap_cons]
        by_cases h2 : t < 2
        · have : t = 0 ∨ t = 1 := by omega
          rcases this with rfl | rfl <;> simp [encW]
        · obtain ⟨u, rfl⟩ : ∃ u, t = u + 2 := ⟨t - 2, by omega⟩
          rw [List.getElem?_append_right (by simp [encW])]
          have e1 : u + 2 - (encW a).length = u := by simp [encW]
          rw [e1, ih u (by simp at ht; omega), show (u + 2) / 2 = u / 2 + 1 by omega, show (u + 2) % 2 = u % 2 by omega]
          rfl
    refine ⟨g, 0, rfl, blk_lt h4, fun j hj => ⟨key (j * 2) _ ?_, ?_⟩⟩
    · rw [fm xs (j * 2) (by omega), Nat.mul_div_cancel j (by decide), Nat.mul_mod_left]
      simp [List.getD, hj, encW]
    · have := key (j * 2 + 1) (.string (bs xs[j].2)) (by
        rw [fm xs (j * 2 + 1) (by omega), show (j * 2 + 1) / 2 = j by omega, show (j * 2 + 1) % 2 = 1 by omega]
        simp [List.getD, hj, encW])
      exact this
def WatP (xs : List WishV) (w : World) (e : Ending) (w' : World) : Prop := (∃ A c, e = .returned (.slice A xs.length c) ∧ OwnW w.heap.size w' (.slice A xs.length c) xs) ∧ RowKit.Below w.heap.size w w'
def sliceLn (v : Value) : Nat := match v with | .slice _ n _ => n | _ => 0
theorem wishV_ne {l : List UInt8} {c : UInt8} {n : List UInt8} (h : wishV l = some (c, n)) : c ≠ 0 := by
  unfold wishV at h
  split at h
  · rename_i h0; cases h; exact h0
  · split at h
    · cases h
    · split at h
      · rename_i h0
        cases h
        rcases h0.1 with rfl | rfl <;> decide
      · cases h
set_option maxRecDepth 100000 in
set_option maxHeartbeats 8000000 in
theorem watch_v (A : Option Addr) (c : Nat) (ps : List (List UInt8)) (w : World) (hl : ps.length ≤ 1000) (hp : ∀ p ∈ ps, p.length ≤ 1000) (hr : ReadsT w A ps) (hR : Rowed w) :
    Calls Tryd.prog 7 #[.slice A ps.length c] w (WatP (watchA ps) w) := by
  obtain ⟨i0, hi0, hz0, hz1, hz2⟩ := info_parts Tryd.infoWi
  by_cases hps : ps = []
  · subst hps
    clear hr hR hp hl
    go_enter Tryd.func7, Tryd.ntmps7
    go_wp2_with fail
    go_ret
    refine ⟨⟨_, _, rfl, ⟨rfl, .inr ⟨w.heap.size, 1, _, rfl, Nat.le_refl _, heap_alloc_new _ _, by simp [watchA], by decide, by simp, rfl⟩⟩⟩, (Below.refl _ _).alloc (Nat.le_refl _) _⟩
  · have hpos : 0 < ps.length := List.length_pos_iff.2 hps
    have hwa : watchA ps = watchV ps := if_neg hps
    rw [hwa]
    obtain ⟨g, o, rfl, hg, hc⟩ := hr hpos
    have q0 : ((ps.length : Int) == 0) = false := by rw [beq_eq_false_iff_ne]; omega
    have HC := Lib.hid (And.intro hc (And.intro hp (And.intro hR hg)))
    have H0 : Hid (OwnW w.heap.size w (.slice none 0 0) (watchV (ps.take 0)) ∧ Below w.heap.size w w) := ⟨ownW_nil _ _, Below.refl _ _⟩
    clear hc hp hR hg hr hwa hps
    go_enter Tryd.func7, Tryd.ntmps7
    go_wp2_with fail
    go_loopw [3, 14] (fun l i wr => ∃ (k m : Nat) (A1 : Option Addr) (c1 : Nat), i = .int .i64 k ∧ k ≤ ps.length ∧ l = .slice A1 m c1 ∧ m ≤ k ∧ Hid (m = (watchV (ps.take k)).length ∧ OwnW w.heap.size wr (.slice A1 m c1) (watchV (ps.take k)) ∧ Below w.heap.size w wr)) (fun _ i _ => ps.length - (RowKit.intOf i).toNat)
    case atStart => exact ⟨0, 0, none, 0, rfl, Nat.zero_le _, rfl, Nat.le_refl _, rfl, H0.out.1, H0.out.2⟩
    case round =>
      obtain ⟨k, m, A1, c1, rfl, hk, rfl, hm, HG⟩ := hrel
      clear H0
      by_cases hlt : k < ps.length
      · obtain ⟨p, hpk⟩ : ∃ p, ps[k] = p := ⟨_, rfl⟩
        have c0 : wr.cell? ⟨g, o + k, none⟩ = some (.string (bs p)) := by rw [← hpk]; exact ((Fr.of_below HG.out.2.2).cell (X := fun _ => False) (p := ⟨g, o + k, none⟩) HC.out.2.2.2 fun e => e).trans (HC.out.1 k hlt)
        have hpl : p.length ≤ 1000 := HC.out.2.1 p (by rw [← hpk]; exact List.getElem_mem hlt)
        have hRw : Rowed wr := HC.out.2.2.1.below (Nat.le_refl _) HG.out.2.2
        have htk : ps.take (k + 1) = ps.take k ++ [p] := by rw [List.take_succ_eq_append_getElem hlt, hpk]
        have hw := wish_v (bs p) wr (by rw [bs_size]; omega) hRw
        rw [bs_toList] at hw
        have hsn := watchV_snoc (ps.take k) p
        rw [← htk] at hsn
        have p0 : (k : Int) < (ps.length : Int) := by omega
        cases ho : wishV p with
        | none =>
          rw [ho] at hw hsn
          unfold wishR at hw
          dsimp only at hw
          have HW := Lib.hid hw
          have HS := Lib.hid hsn
          clear hw hsn htk hRw hpl hpk ho
          go_wp2_with fail
          refine HW.out.mono ?_
          rintro e w5 ⟨rfl, b5⟩
          have B5 := Lib.hid b5
          clear b5 c0
          go_wp2_with fail
          go_roundw
          case rel => exact ⟨k + 1, m, A1, c1, by go_num, by omega, rfl, by omega, by rw [HS.out]; simpa using HG.out.1, by
            rw [HS.out]
            simp only [Option.toList, List.append_nil]
            exact ownW_kept HG.out.2.1 fun j hj => ((Fr.of_below B5.out).alloc (X := fun _ => False) _).block j (HG.out.2.1.lt j hj).2 fun e => e, (HG.out.2.2.trans (B5.out.mono HG.out.2.2.size)).alloc (Nat.le_trans HG.out.2.2.size B5.out.size) _⟩
          case measure => simp [RowKit.intOf]; omega
        | some x =>
          obtain ⟨op, nm⟩ := x
          rw [ho] at hw hsn
          have hne := wishV_ne ho
          have q1 : ((op.toNat : Int) == 0) = false := u8_ne (n := 0) (by omega) hne
          unfold wishR at hw
          dsimp only at hw
          have HW := Lib.hid hw
          have HS := Lib.hid (And.intro hsn hne)
          clear hw hsn htk hRw hpl hpk ho hne
          go_wp2_with fail
          refine HW.out.mono ?_
          rintro e w5 ⟨rfl, b5⟩
          have B5 := Lib.hid b5
          have hz5 := b5.size
          have hzG := HG.out.2.2.size
          clear b5 c0
          have hown : w5.ownsRow w.heap.size 30 2 (.slice A1 m c1) m ((watchV (ps.take k)).flatMap encW) := by
            have := ownW_kept (W := w5) HG.out.2.1 fun j hj => (Fr.of_below (X := fun _ => False) B5.out).block j (HG.out.2.1.lt j hj).2 fun e => e
            unfold OwnW at this
            rwa [← HG.out.1] at this
          obtain ⟨W6, hW6⟩ : ∃ W6, w5.alloc (.cells #[.int .u8 op.toNat, .string (bs nm)] 30) = W6 := ⟨_, rfl⟩
          have f6 : Fr (fun _ => False) w5 W6 := by rw [← hW6]; exact (Fr.refl _ _).alloc _
          have hown6 : W6.ownsRow w.heap.size 30 2 (.slice A1 m c1) m ((watchV (ps.take k)).flatMap encW) := row_same hown fun j hj => f6.block j (hown.lt j hj).2 fun e => e
          have z6 : w.heap.size ≤ W6.heap.size := by have := f6.size; omega
          have HO := Lib.hid (And.intro hown6 (And.intro f6 z6))
          have HW6 := Lib.hid hW6
          clear hown hW6 f6 hown6
          go_wp2_with (at_builtin; refine Hid.out ?_)
          refine Lib.hid ?_
          have z65 : w5.heap.size + 1 = W6.heap.size := by rw [← HW6.out]; simp
          rw [HW6.out, z65]
          refine wpList_one_t rfl _ _ 26 rfl w.heap.size 30 i0 _ 2 24 Tryd.underlying26 hi0 hz0 hz1 hz2 rfl (by decide) _ m ((watchV (ps.take k)).flatMap encW) rfl HO.out.1 #[.int .u8 op.toNat, .string (bs nm)] W6.heap.size rfl rfl rfl (by intro u hu; simp at hu; rcases hu with rfl | rfl <;> rfl) (by omega) (by decide) z6 ?_
          intro v4 W4 o4 f4 t4
          obtain ⟨A4, c4, ev4⟩ := row_slice o4
          subst ev4
          have hnew : (watchV (ps.take (k + 1))).length = m + 1 := by rw [HS.out.1, List.length_append, ← HG.out.1]; rfl
          have HNew : Hid (m + 1 = (watchV (ps.take (k + 1))).length ∧ OwnW w.heap.size W4 (.slice A4 (m + 1) c4) (watchV (ps.take (k + 1))) ∧ Below w.heap.size w W4) := by
            refine ⟨hnew.symm, ?_, ?_⟩
            · unfold OwnW
              rw [hnew, HS.out.1, List.flatMap_append]
              exact o4
            · exact ((HG.out.2.2.trans (B5.out.mono HG.out.2.2.size)).trans (HO.out.2.1.below (by omega) fun _ _ e => e.elim)).trans (f4.below z6 fun j hj e => (HO.out.1.lt j e).1)
          clear o4 f4 t4 hnew
          go_wp2_with fail
          go_roundw
          case rel => exact ⟨k + 1, m + 1, A4, c4, by go_num, by omega, rfl, by omega, HNew⟩
          case measure => simp [RowKit.intOf]; omega
      · obtain rfl : k = ps.length := by omega
        have p1 : ¬ ((ps.length : Int) < (ps.length : Int)) := by omega
        go_wp2_with fail
        go_ret
        obtain ⟨h1, h2, h3⟩ := HG.out
        rw [List.take_length] at h1 h2
        exact ⟨⟨A1, c1, by rw [h1]; rfl, by rw [← h1]; exact h2⟩, h3⟩
end Go.Proofs.YtnoeblnljfnecaaDoor
end
