/- Texts of this proof, one behind the other. -/
import Derived.Test.YtkbgpajconhgjaaGreatDoorPersonLinesG10
import Derived.ProofKit
import Derived.OpenShut
import Derived.ShutString
import Derived.ChangeArms
import Derived.ChangeSame
import Derived.WideShapes
import Derived.Test.YtkbgpajconhgjaaGreatDoorChecked
import Derived.Test.YtkbgpajconhgjaaGreatDoorPersonLinesG1
import Derived.RangeFuncKeeps
import Derived.Outline
import Derived.Deep.QuietTactic
import Derived.BigQuiet
import Derived.Laws.StructEq
import Derived.ChangeKeysEq
import Derived.RangeFuncWrites
import Derived.RangeFuncBox
import Derived.Sort.CutIn
import Derived.Stop.RegionWithIn
import Derived.Test.YtkbgpajconhgjaaGreatDoorPersonLinesG5
import Derived.Test.YtkbgpajconhgjaaGreatDoorPersonLinesG4
import Derived.Test.YtkbgpajconhgjaaGreatDoorPersonLinesG13
import Derived.Test.YtkbgpajconhgjaaGreatDoorRows
import Derived.LaidMore
import Derived.Lay
import Derived.SevenTiedAt
import Derived.Stop.Joined
import Derived.Shelf.Vars
import Derived.Handed
import Derived.Lib.ItoaNum
set_option linter.unusedVariables false
set_option linter.unusedSimpArgs false
section
/- Arguments that are somebody, or a member, by value, opened. -/
namespace Go.Proofs.YtkbgpajconhgjaaGreatDoor
open Go Go.ChangeShapes Go.WideShapes Go.RowKit

set_option maxRecDepth 1000000 in
set_option maxHeartbeats 4000000 in
theorem open_per {H : Type} {enc : TypeId × Value → H} {W : World} {base b0 : Nat} {spare : Nat → Bool} {held : Bool} {r : Reach} {v : Value} {d : DataW H} {p : List MemPlace}
    (hv : Value.okWide Tryz.prog W r b0 23 v) (h : DataW.Trod enc Tryz.prog W base spare held 23 v d p) :
    ∃ (m0 : Int) (s1 : ByteArray) (s2 : ByteArray) (s3 : ByteArray) (s4 : ByteArray) (s5 : ByteArray) (b6 : Bool) (b7 : Bool) (m8 : Int) (m9 : Int), v = per m0 s1 s2 s3 s4 s5 b6 b7 m8 m9 ∧ s1.size ≤ maxLen ∧ s2.size ≤ maxLen ∧ s3.size ≤ maxLen ∧ s4.size ≤ maxLen ∧ s5.size ≤ maxLen := by
  have hC : Tryz.prog.cellsOf 23 = 10 := by kernel_rfl
  have ks : Tryz.prog.cellsOf 9 = 1 := by kernel_rfl
  have ki : Tryz.prog.cellsOf 3 = 1 := by kernel_rfl
  have kb : Tryz.prog.cellsOf 4 = 1 := by kernel_rfl
  obtain ⟨cs, rfl, hsz⟩ := okWide_struct Tryz.underlying23 hv
  obtain ⟨l⟩ := cs
  match l, hsz.trans hC with
  | [c0, c1, c2, c3, c4, c5, c6, c7, c8, c9], _ =>
    obtain ⟨fuel, hf⟩ := h
    obtain ⟨xs, n, _, hx, _, hlen, hg⟩ := DataW.trod_struct Tryz.underlying23 hf
    have hl : xs.length = 10 := hlen
    have gs : ∀ i, i < 10 → ∃ y, xs[i]? = some y := fun i hi => ⟨xs[i]'(by omega), List.getElem?_eq_getElem (by omega)⟩
    obtain ⟨y0, e0⟩ := gs 0 (by omega)
    have g0 := hg 0 _ rfl
    rw [e0] at g0
    obtain ⟨m0, q0, _⟩ := DataW.trod_int Tryz.underlying3 g0
    simp [Value.cells, ki] at q0
    obtain ⟨y1, e1⟩ := gs 1 (by omega)
    have g1 := hg 1 _ rfl
    rw [e1] at g1
    obtain ⟨s1, q1, _, z1⟩ := DataW.trod_string Tryz.underlying9 g1
    simp [Value.cells, ks] at q1
    obtain ⟨y2, e2⟩ := gs 2 (by omega)
    have g2 := hg 2 _ rfl
    rw [e2] at g2
    obtain ⟨s2, q2, _, z2⟩ := DataW.trod_string Tryz.underlying9 g2
    simp [Value.cells, ks] at q2
    obtain ⟨y3, e3⟩ := gs 3 (by omega)
    have g3 := hg 3 _ rfl
    rw [e3] at g3
    obtain ⟨s3, q3, _, z3⟩ := DataW.trod_string Tryz.underlying9 g3
    simp [Value.cells, ks] at q3
    obtain ⟨y4, e4⟩ := gs 4 (by omega)
    have g4 := hg 4 _ rfl
    rw [e4] at g4
    obtain ⟨s4, q4, _, z4⟩ := DataW.trod_string Tryz.underlying9 g4
    simp [Value.cells, ks] at q4
    obtain ⟨y5, e5⟩ := gs 5 (by omega)
    have g5 := hg 5 _ rfl
    rw [e5] at g5
    obtain ⟨s5, q5, _, z5⟩ := DataW.trod_string Tryz.underlying9 g5
    simp [Value.cells, ks] at q5
    obtain ⟨y6, e6⟩ := gs 6 (by omega)
    have g6 := hg 6 _ rfl
    rw [e6] at g6
    obtain ⟨b6, q6, _⟩ := DataW.trod_bool Tryz.underlying4 g6
    simp [Value.cells, kb] at q6
    obtain ⟨y7, e7⟩ := gs 7 (by omega)
    have g7 := hg 7 _ rfl
    rw [e7] at g7
    obtain ⟨b7, q7, _⟩ := DataW.trod_bool Tryz.underlying4 g7
    simp [Value.cells, kb] at q7
    obtain ⟨y8, e8⟩ := gs 8 (by omega)
    have g8 := hg 8 _ rfl
    rw [e8] at g8
    obtain ⟨m8, q8, _⟩ := DataW.trod_int Tryz.underlying3 g8
    simp [Value.cells, ki] at q8
    obtain ⟨y9, e9⟩ := gs 9 (by omega)
    have g9 := hg 9 _ rfl
    rw [e9] at g9
    obtain ⟨m9, q9, _⟩ := DataW.trod_int Tryz.underlying3 g9
    simp [Value.cells, ki] at q9
    subst q0 q1 q2 q3 q4 q5 q6 q7 q8 q9
    exact ⟨m0, s1, s2, s3, s4, s5, b6, b7, m8, m9, rfl, z1, z2, z3, z4, z5⟩
set_option maxRecDepth 1000000 in
set_option maxHeartbeats 4000000 in
theorem open_memb {H : Type} {enc : TypeId × Value → H} {W : World} {base b0 : Nat} {spare : Nat → Bool} {held : Bool} {r : Reach} {v : Value} {d : DataW H} {p : List MemPlace}
    (hv : Value.okWide Tryz.prog W r b0 25 v) (h : DataW.Trod enc Tryz.prog W base spare held 25 v d p) :
    ∃ (m0 : Int) (b1 : Bool) (b2 : Bool), v = memb m0 b1 b2 := by
  have hC : Tryz.prog.cellsOf 25 = 3 := by kernel_rfl
  have ki : Tryz.prog.cellsOf 3 = 1 := by kernel_rfl
  have kb : Tryz.prog.cellsOf 4 = 1 := by kernel_rfl
  obtain ⟨cs, rfl, hsz⟩ := okWide_struct Tryz.underlying25 hv
  obtain ⟨l⟩ := cs
  match l, hsz.trans hC with
  | [c0, c1, c2], _ =>
    obtain ⟨fuel, hf⟩ := h
    obtain ⟨xs, n, _, hx, _, hlen, hg⟩ := DataW.trod_struct Tryz.underlying25 hf
    have hl : xs.length = 3 := hlen
    have gs : ∀ i, i < 3 → ∃ y, xs[i]? = some y := fun i hi => ⟨xs[i]'(by omega), List.getElem?_eq_getElem (by omega)⟩
    obtain ⟨y0, e0⟩ := gs 0 (by omega)
    have g0 := hg 0 _ rfl
    rw [e0] at g0
    obtain ⟨m0, q0, _⟩ := DataW.trod_int Tryz.underlying3 g0
    simp [Value.cells, ki] at q0
    obtain ⟨y1, e1⟩ := gs 1 (by omega)
    have g1 := hg 1 _ rfl
    rw [e1] at g1
    obtain ⟨b1, q1, _⟩ := DataW.trod_bool Tryz.underlying4 g1
    simp [Value.cells, kb] at q1
    obtain ⟨y2, e2⟩ := gs 2 (by omega)
    have g2 := hg 2 _ rfl
    rw [e2] at g2
    obtain ⟨b2, q2, _⟩ := DataW.trod_bool Tryz.underlying4 g2
    simp [Value.cells, kb] at q2
    subst q0 q1 q2
    exact ⟨m0, b1, b2, rfl⟩
end Go.Proofs.YtkbgpajconhgjaaGreatDoor
end
section
/- Layer 18: modes.Seq, the letters of a row, as a function that ranges; Takes on both sides. -/
namespace Go.Proofs.YtkbgpajconhgjaaGreatDoor
open Go.RowKit Go.Shelf
attribute [local go_sem] Oper.semAt_some

/-- a letter, and whether it is on -/
abbrev Letter := UInt8 × Bool
abbrev encLet (x : Letter) : Array Value := #[.int .u8 x.1.toNat, .bool x.2]
/-- the letters of a row, from a sign on -/
def seqL (on : Bool) : List UInt8 → List Letter
  | [] => []
  | c :: r => if c = 43 then seqL true r else if c = 45 then seqL false r else (c, on) :: seqL on r
theorem seqL_len (on : Bool) (l : List UInt8) : (seqL on l).length ≤ l.length := by
  induction l generalizing on with
  | nil => simp [seqL]
  | cons c r ih =>
    unfold seqL
    split
    · have := ih true; simp; omega
    · split
      · have := ih false; simp; omega
      · have := ih on; simp; omega
theorem seqL_at (on : Bool) (s : ByteArray) (k : Nat) (h : k < s.size) : seqL on (s.data.toList.drop k) = if s[k] = 43 then seqL true (s.data.toList.drop (k + 1)) else if s[k] = 45 then seqL false (s.data.toList.drop (k + 1)) else (s[k], on) :: seqL on (s.data.toList.drop (k + 1)) := by
  rw [List.drop_eq_getElem_cons (by simpa using h)]
  rfl





/-- block B lies as it lay -/
def KeptAt (B : Nat) (W1 W' : World) : Prop := W'.heap[B]? = W1.heap[B]?
theorem KeptAt.cell {B : Nat} {W1 W' : World} (h : KeptAt B W1 W') : W'.cell? ⟨B, 0, none⟩ = W1.cell? ⟨B, 0, none⟩ := World.cell?_of_block (w := W1) h

end Go.Proofs.YtkbgpajconhgjaaGreatDoor
end
section
/- Layer 18: changes as data; Lists, the answers' Takes and Same. -/
namespace Go.Proofs.YtkbgpajconhgjaaGreatDoor
open Go.RowKit

/-- does a letter take an argument? -/
def takesB (c : UInt8) (on : Bool) : Bool := c == 111 || c == 118 || c == 98 || c == 107 || (c == 108 && on)



/-- a change: on, its letter, its argument -/
abbrev Chg := Bool × UInt8 × ByteArray
def chV (x : Chg) : Value := .agg #[.bool x.1, .int .u8 x.2.1.toNat, .string x.2.2]
def listsB (x : Chg) : Bool := x.2.1 == 98 && x.2.2.toList.isEmpty





def eqB (x y : Chg) : Bool := x.1 == y.1 && (x.2.1 == y.2.1 && x.2.2.toList == y.2.2.toList)
theorem eqB_iff {x y : Chg} : eqB x y = true ↔ x = y := by
  obtain ⟨a, b, c⟩ := x
  obtain ⟨a', b', c'⟩ := y
  unfold eqB
  simp only [Bool.and_eq_true, beq_iff_eq, Prod.mk.injEq]
  rw [ByteArray.toList_eq, ByteArray.toList_eq]
  constructor
  · rintro ⟨h1, h2, h3⟩; exact ⟨h1, h2, ba_ext h3⟩
  · rintro ⟨h1, h2, h3⟩; exact ⟨h1, h2, by rw [h3]⟩

def ReadsC (W : World) (v : Value) (l : List Chg) : Prop :=
  (v = .slice none 0 0 ∧ l = []) ∨ ∃ g off cap, v = .slice (some ⟨g, off, none⟩) l.length cap ∧ ∀ i (h : i < l.length), W.cell? ⟨g, off + i * 3, none⟩ = some (.bool l[i].1) ∧ W.cell? ⟨g, off + i * 3 + 1, none⟩ = some (.int .u8 l[i].2.1.toNat) ∧ W.cell? ⟨g, off + i * 3 + 2, none⟩ = some (.string l[i].2.2)

end Go.Proofs.YtkbgpajconhgjaaGreatDoor
end
section
/- Layer 18: the answers' Parse. -/
namespace Go.Proofs.YtkbgpajconhgjaaGreatDoor
open Go.RowKit

/-- one letter more: the changes, the next argument, how many took one -/
abbrev PSt := List Chg × Nat × Nat
def noArg : ByteArray := ⟨#[]⟩
def stepP (ps : List ByteArray) (st : PSt) (x : Letter) : PSt :=
  if takesB x.1 x.2 = true then
    if st.2.2 = 4 then st
    else if h : st.2.1 < ps.length then (st.1 ++ [(x.2, x.1, ps[st.2.1])], st.2.1 + 1, st.2.2 + 1)
    else if x.1 = 98 then (st.1 ++ [(x.2, x.1, noArg)], st.2.1, st.2.2 + 1)
    else st
  else (st.1 ++ [(x.2, x.1, noArg)], st.2.1, st.2.2)
theorem stepP_no {ps : List ByteArray} {out : List Chg} {a n : Nat} {c : UInt8} {o : Bool} (h : takesB c o = false) : stepP ps (out, a, n) (c, o) = (out ++ [(o, c, noArg)], a, n) := by simp [stepP, h]
theorem stepP_full {ps : List ByteArray} {out : List Chg} {a : Nat} {c : UInt8} {o : Bool} (h : takesB c o = true) : stepP ps (out, a, 4) (c, o) = (out, a, 4) := by simp [stepP, h]
theorem stepP_arg {ps : List ByteArray} {out : List Chg} {a n : Nat} {c : UInt8} {o : Bool} (h : takesB c o = true) (hn : n ≠ 4) (ha : a < ps.length) : stepP ps (out, a, n) (c, o) = (out ++ [(o, c, ps[a])], a + 1, n + 1) := by simp [stepP, h, hn, ha]
theorem stepP_list {ps : List ByteArray} {out : List Chg} {a n : Nat} {o : Bool} (h : takesB 98 o = true) (hn : n ≠ 4) (ha : ¬ a < ps.length) : stepP ps (out, a, n) (98, o) = (out ++ [(o, 98, noArg)], a, n + 1) := by simp [stepP, h, hn, ha]
theorem stepP_drop {ps : List ByteArray} {out : List Chg} {a n : Nat} {c : UInt8} {o : Bool} (h : takesB c o = true) (hn : n ≠ 4) (ha : ¬ a < ps.length) (hc : c ≠ 98) : stepP ps (out, a, n) (c, o) = (out, a, n) := by simp [stepP, h, hn, ha, hc]
def parseM (ps : List ByteArray) : List Chg := if h : 0 < ps.length then ((seqL true ps[0].data.toList).foldl (stepP ps) ([], 1, 0)).1 else []
/-- changes as cells -/
def chL (l : List Chg) : List Value := l.flatMap fun x => [.bool x.1, .int .u8 x.2.1.toNat, .string x.2.2]
theorem chL_snoc (l : List Chg) (x : Chg) : chL (l ++ [x]) = chL l ++ [.bool x.1, .int .u8 x.2.1.toNat, .string x.2.2] := by simp [chL]



end Go.Proofs.YtkbgpajconhgjaaGreatDoor
end
section
/- Layer 18: modes.Parse. -/
namespace Go.Proofs.YtkbgpajconhgjaaGreatDoor
open Go.RowKit Go.Shelf
attribute [local go_sem] Oper.semAt_some

/-- what is left of the arguments -/
def ArgsAt (pg po : Nat) (ps : List ByteArray) (a : Nat) (v : Value) : Prop :=
  ∃ g o c, v = .slice (some ⟨g, o, none⟩) (ps.length - a) c ∧ ps.length - a ≤ c ∧ (a < ps.length → g = pg ∧ o = po + a)

/-- where the letters have led -/
def stP (ps : List ByteArray) (pre : List Letter) : PSt := pre.foldl (stepP ps) ([], 1, 0)
theorem stP_snoc (ps : List ByteArray) (pre : List Letter) (x : Letter) : stP ps (pre ++ [x]) = stepP ps (stP ps pre) x := by simp [stP]
theorem stP_bounds (ps : List ByteArray) (h : 0 < ps.length) (pre : List Letter) : (stP ps pre).1.length ≤ pre.length ∧ 1 ≤ (stP ps pre).2.1 ∧ (stP ps pre).2.1 ≤ ps.length ∧ (stP ps pre).2.2 ≤ pre.length := by
  have key : ∀ (l : List Letter) (s : PSt) (k : Nat), (s.1.length ≤ k ∧ 1 ≤ s.2.1 ∧ s.2.1 ≤ ps.length ∧ s.2.2 ≤ k) → ((l.foldl (stepP ps) s).1.length ≤ k + l.length ∧ 1 ≤ (l.foldl (stepP ps) s).2.1 ∧ (l.foldl (stepP ps) s).2.1 ≤ ps.length ∧ (l.foldl (stepP ps) s).2.2 ≤ k + l.length) := by
    intro l
    induction l with
    | nil => intro s k hs; simpa using hs
    | cons x r ih =>
      intro s k hs
      have h2 := ih (stepP ps s x) (k + 1) (by
        obtain ⟨h1, h2, h3, h4⟩ := hs
        unfold stepP
        split
        · split
          · exact ⟨by omega, h2, h3, by omega⟩
          · split
            · refine ⟨by simp; omega, by simp, by simp; omega, by simp; omega⟩
            · split
              · exact ⟨by simp; omega, h2, h3, by simp; omega⟩
              · exact ⟨by omega, h2, h3, by omega⟩
        · exact ⟨by simp; omega, h2, h3, by simp; omega⟩)
      simp only [List.foldl_cons, List.length_cons]
      have e : k + 1 + r.length = k + (r.length + 1) := by omega
      rw [e] at h2
      exact h2
  have := key pre ([], 1, 0) 0 (by simp; omega)
  simpa [stP] using this
theorem holds_own {β : Type} (B : Nat) (t : TypeId) (G : β → Value → Prop) : Own (fun s W => ∃ v, Boxed W B t v ∧ G s v) := fun s X Y row ⟨v, hs, hg⟩ hgr hrow =>
  ⟨v, hs.kept hgr (fun e' => by obtain ⟨o, ho, hc⟩ := hrow B e'.symm; rw [show X.heap[B]? = _ from hs] at ho; cases ho; cases hc), hg⟩

theorem grownBy_setAt (W : World) (b o : Nat) (v : Value) : W.grownBy (W.setCell ⟨b, o, none⟩ v) (some b) :=
  ⟨rfl, rfl, rfl, (KeepsWalks.setCell W _ v).size, fun k _ hk => Below.heap_setCell _ _ _ k (fun e => hk (by rw [e]))⟩
theorem boxed_otherAt {W : World} {B B' : Nat} {t : TypeId} {v : Value} (h : Boxed W B t v) (hne : B ≠ B') (o : Nat) (u : Value) : Boxed (W.setCell ⟨B', o, none⟩ u) B t v :=
  h.kept (grownBy_setAt W B' o u) (fun e => hne (by simpa using e))

theorem below_dn' {B : Nat} {a w : World} (h : Below B a w) (n : Nat) : Below B a (w.drewN n) := ⟨h.os, h.tape, h.output, h.size, h.block⟩
theorem keeps_dn' (W : World) (n : Nat) : KeepsOthers W (W.drewN n) := ⟨Nat.le_refl _, fun _ _ h _ => h⟩

theorem slice_from (g o n c : Nat) (h : 1 ≤ n) (hc : n ≤ c) : ∃ g1 o1, (∀ W, (Instr.slice 26 (.slice (some ⟨g, o, none⟩) n c) (some (.int .i64 1)) none none).run Tryz.prog W = .ok (.slice (some ⟨g1, o1, none⟩) (n - 1) (c - 1)) W) ∧ (1 < n → g1 = g ∧ o1 = o + 1) := by
  have hu : Tryz.prog.underlying 26 = some (.slice (Tryz.prog.elem 26)) := by kernel_rfl
  have hz : (Tryz.prog.info? (Tryz.prog.elem 26)).map (·.size) = some 1 := by kernel_rfl
  cases hie : Tryz.prog.info? (Tryz.prog.elem 26) with
  | none => rw [hie] at hz; cases hz
  | some ie =>
    rw [hie] at hz
    simp only [Option.map_some, Option.some.injEq] at hz
    by_cases h1 : c = 1
    · subst h1
      refine ⟨g, o, fun W => ?_, fun h2 => by omega⟩
      rw [run_slice_l W 26 _ _ _ hu _ _ (by omega) (by omega)]
      simp [sliced, sizeOf, hie, hz, go_sem]
    · refine ⟨g, o + 1, fun W => ?_, fun h2 => ⟨rfl, rfl⟩⟩
      rw [run_slice_l W 26 _ _ _ hu _ _ (by omega) (by omega)]
      have h3 : ¬ (c - 1 = 0) := by omega
      simp [sliced, sizeOf, hie, hz, go_sem, h1, Addr.add, show Tryz.t9.size = 1 from rfl]

end Go.Proofs.YtkbgpajconhgjaaGreatDoor
end
section
/- Layer 18: what is written, as data; what is read is good; what is good comes back. -/
namespace Go.Proofs.YtkbgpajconhgjaaGreatDoor
open Go.RowKit

/-- what is written: the row, the arguments, the sign that stands last -/
abbrev TSt := List UInt8 × List ByteArray × Option Bool
def sgn (on : Bool) : UInt8 := if on then 43 else 45
def stepT (st : TSt) (x : Chg) : TSt :=
  (st.1 ++ (if st.2.2 = some x.1 then [] else [sgn x.1]) ++ [x.2.1], if takesB x.2.1 x.1 = true then st.2.1 ++ [x.2.2] else st.2.1, some x.1)
def textS (l : List Chg) : TSt := l.foldl stepT ([], [], none)
def textM (l : List Chg) : List ByteArray := if l = [] then [] else bs (textS l).1 :: (textS l).2.1
theorem textS_take (l : List Chg) (k : Nat) (h : k < l.length) : textS (l.take (k + 1)) = stepT (textS (l.take k)) l[k] := by
  unfold textS
  rw [List.take_succ_eq_append_getElem h, List.foldl_append]
  rfl
theorem textS_last (l : List Chg) (k : Nat) (h : k < l.length) : (textS (l.take (k + 1))).2.2 = some l[k].1 := by
  rw [textS_take l k h]; rfl

def rowR (p : Option Bool) : List Chg → List UInt8
  | [] => []
  | x :: r => (if p = some x.1 then [] else [sgn x.1]) ++ x.2.1 :: rowR (some x.1) r
def tk (x : Chg) : Bool := takesB x.2.1 x.1
def argsR (l : List Chg) : List ByteArray := (l.filter tk).map (·.2.2)
def manyT (l : List Chg) : Nat := (l.filter tk).length
theorem fold_text : ∀ (l : List Chg) (r : List UInt8) (a : List ByteArray) (p : Option Bool), (l.foldl stepT (r, a, p)).1 = r ++ rowR p l ∧ (l.foldl stepT (r, a, p)).2.1 = a ++ argsR l
  | [], r, a, p => by simp [rowR, argsR]
  | x :: l, r, a, p => by
    have h := fold_text l (stepT (r, a, p) x).1 (stepT (r, a, p) x).2.1 (some x.1)
    have e : (x :: l).foldl stepT (r, a, p) = l.foldl stepT ((stepT (r, a, p) x).1, (stepT (r, a, p) x).2.1, some x.1) := rfl
    rw [e, h.1, h.2]
    refine ⟨by simp [stepT, rowR], ?_⟩
    cases ht : tk x with
    | true =>
      have ht' : takesB x.2.1 x.1 = true := ht
      simp [stepT, argsR, List.filter_cons, ht, ht']
    | false =>
      have ht' : takesB x.2.1 x.1 = false := ht
      simp [stepT, argsR, List.filter_cons, ht, ht']
theorem textS_row (l : List Chg) : (textS l).1 = rowR none l := by unfold textS; simpa using (fold_text l [] [] none).1
theorem textS_args (l : List Chg) : (textS l).2.1 = argsR l := by unfold textS; simpa using (fold_text l [] [] none).2
theorem rowR_len : ∀ (l : List Chg) (p : Option Bool), (rowR p l).length ≤ 2 * l.length
  | [], p => by simp [rowR]
  | x :: r, p => by
    have := rowR_len r (some x.1)
    unfold rowR
    split <;> simp <;> omega
theorem argsR_len (l : List Chg) : (argsR l).length = manyT l := by simp [argsR, manyT]
theorem manyT_le (l : List Chg) : manyT l ≤ l.length := List.length_filter_le _ _
theorem textS_len (l : List Chg) : (textS l).1.length ≤ 2 * l.length ∧ (textS l).2.1.length ≤ l.length := by
  rw [textS_row, textS_args, argsR_len]
  exact ⟨rowR_len l none, manyT_le l⟩

/-! what is read is good -/
def goodC (x : Chg) : Prop := x.2.1 ≠ 43 ∧ x.2.1 ≠ 45 ∧ (tk x = false → x.2.2 = noArg)
theorem seqL_mem : ∀ (l : List UInt8) (on : Bool) (x : Letter), x ∈ seqL on l → x.1 ≠ 43 ∧ x.1 ≠ 45
  | [], on, x, h => by simp [seqL] at h
  | c :: r, on, x, h => by
    unfold seqL at h
    split at h
    · exact seqL_mem r _ x h
    · split at h
      · exact seqL_mem r _ x h
      · rcases List.mem_cons.1 h with rfl | h
        · exact ⟨‹_›, ‹_›⟩
        · exact seqL_mem r _ x h
theorem manyT_snoc (l : List Chg) (x : Chg) : manyT (l ++ [x]) = manyT l + if tk x = true then 1 else 0 := by
  unfold manyT
  rw [List.filter_append, List.length_append]
  cases h : tk x <;> simp [List.filter_cons, h]
def okP (st : PSt) : Prop := (∀ x ∈ st.1, goodC x) ∧ manyT st.1 = st.2.2 ∧ st.2.2 ≤ 4
theorem okP_step (ps : List ByteArray) (st : PSt) (x : Letter) (h1 : x.1 ≠ 43) (h2 : x.1 ≠ 45) (h : okP st) : okP (stepP ps st x) := by
  obtain ⟨out, a, n⟩ := st
  obtain ⟨c, on⟩ := x
  obtain ⟨hg, hm, hn⟩ := h
  simp only at hg hm hn h1 h2
  have snoc : ∀ y : Chg, goodC y → ∀ z ∈ out ++ [y], goodC z := fun y hy z hz => by
    rcases List.mem_append.1 hz with hz | hz
    · exact hg z hz
    · rw [List.mem_singleton.1 hz]; exact hy
  cases ht : takesB c on with
  | false =>
    rw [stepP_no ht]
    have hk : ∀ b, tk (on, c, b) = false := fun b => ht
    exact ⟨snoc _ ⟨h1, h2, fun _ => rfl⟩, by show manyT (out ++ [_]) = n; rw [manyT_snoc, hk]; simpa using hm, hn⟩
  | true =>
    have hk : ∀ b, tk (on, c, b) = true := fun b => ht
    have good : ∀ b, goodC (on, c, b) := fun b => ⟨h1, h2, fun h => by rw [hk] at h; cases h⟩
    have many : ∀ b, manyT (out ++ [(on, c, b)]) = n + 1 := fun b => by rw [manyT_snoc, hk, hm]; rfl
    by_cases h4 : n = 4
    · subst h4; rw [stepP_full ht]; exact ⟨hg, hm, hn⟩
    · by_cases ha : a < ps.length
      · rw [stepP_arg ht h4 ha]; exact ⟨snoc _ (good _), many _, by show n + 1 ≤ 4; omega⟩
      · by_cases hc : c = 98
        · subst hc; rw [stepP_list ht h4 ha]; exact ⟨snoc _ (good _), many _, by show n + 1 ≤ 4; omega⟩
        · rw [stepP_drop ht h4 ha hc]; exact ⟨hg, hm, hn⟩
theorem okP_fold (ps : List ByteArray) : ∀ (l : List Letter) (st : PSt), (∀ x ∈ l, x.1 ≠ 43 ∧ x.1 ≠ 45) → okP st → okP (l.foldl (stepP ps) st)
  | [], st, _, h => h
  | x :: l, st, hl, h => okP_fold ps l _ (fun y hy => hl y (List.mem_cons_of_mem _ hy)) (okP_step ps st x (hl x List.mem_cons_self).1 (hl x List.mem_cons_self).2 h)
theorem parse_good (ps : List ByteArray) : (∀ x ∈ parseM ps, goodC x) ∧ manyT (parseM ps) ≤ 4 := by
  unfold parseM
  split
  · have h := okP_fold ps _ ([], 1, 0) (seqL_mem ps[0].data.toList true) ⟨by simp, rfl, by decide⟩
    exact ⟨h.1, by rw [h.2.1]; exact h.2.2⟩
  · exact ⟨by simp, by decide⟩

/-! what is good comes back -/
theorem seqL_row : ∀ (l : List Chg) (p : Option Bool) (on : Bool), (p = none ∨ p = some on) → (∀ x ∈ l, goodC x) → seqL on (rowR p l) = l.map fun x => (x.2.1, x.1)
  | [], p, on, _, _ => by simp [rowR, seqL]
  | x :: r, p, on, hp, hg => by
    have hx := hg x List.mem_cons_self
    have ih := fun o => seqL_row r (some x.1) o
    have rest := ih x.1 (.inr rfl) fun y hy => hg y (List.mem_cons_of_mem _ hy)
    unfold rowR
    by_cases h : p = some x.1
    · rw [if_pos h]
      have ho : on = x.1 := by
        rcases hp with hp | hp
        · rw [hp] at h; cases h
        · rw [hp] at h; injection h
      subst ho
      show seqL x.1 (x.2.1 :: rowR (some x.1) r) = _
      unfold seqL
      rw [if_neg hx.1, if_neg hx.2.1, rest]
      rfl
    · rw [if_neg h]
      have hs : seqL on (sgn x.1 :: x.2.1 :: rowR (some x.1) r) = seqL x.1 (x.2.1 :: rowR (some x.1) r) := by
        obtain ⟨o, c, b⟩ := x
        cases o
        · rfl
        · rfl
      show seqL on (sgn x.1 :: x.2.1 :: rowR (some x.1) r) = _
      rw [hs]
      show seqL x.1 (x.2.1 :: rowR (some x.1) r) = _
      conv => lhs; unfold seqL
      rw [if_neg hx.1, if_neg hx.2.1, rest]
      rfl
theorem manyT_app (a b : List Chg) : manyT (a ++ b) = manyT a + manyT b := by simp [manyT]
theorem back_fold (row : ByteArray) (l : List Chg) (hg : ∀ x ∈ l, goodC x) (h4 : manyT l ≤ 4) : ∀ (suf pre : List Chg), l = pre ++ suf →
    (suf.map fun x => (x.2.1, x.1)).foldl (stepP (row :: argsR l)) (pre, 1 + manyT pre, manyT pre) = (l, 1 + manyT l, manyT l)
  | [], pre, h => by
    have : l = pre := by simpa using h
    subst this; rfl
  | x :: suf, pre, h => by
    have hl : l = (pre ++ [x]) ++ suf := by rw [h]; simp
    have ih := back_fold row l hg h4 suf (pre ++ [x]) hl
    have hx := hg x (by rw [h]; simp)
    have hm := manyT_snoc pre x
    have hml : manyT l = manyT (pre ++ [x]) + manyT suf := by rw [← manyT_app, ← hl]
    rw [List.map_cons, List.foldl_cons]
    have step : stepP (row :: argsR l) (pre, 1 + manyT pre, manyT pre) (x.2.1, x.1) = (pre ++ [x], 1 + manyT (pre ++ [x]), manyT (pre ++ [x])) := by
      cases ht : tk x with
      | false =>
        have ht' : takesB x.2.1 x.1 = false := ht
        rw [stepP_no ht', hm, ht]
        have : x = (x.1, x.2.1, noArg) := by rw [← hx.2.2 ht]
        rw [← this]; rfl
      | true =>
        have ht' : takesB x.2.1 x.1 = true := ht
        rw [ht] at hm
        simp only [if_true] at hm
        have ha : 1 + manyT pre < (row :: argsR l).length := by rw [List.length_cons, argsR_len]; omega
        have hget : (row :: argsR l)[1 + manyT pre]'ha = x.2.2 := by
          have e1 : argsR l = argsR pre ++ x.2.2 :: argsR suf := by
            rw [h]; unfold argsR; simp [List.filter_append, List.filter_cons, ht]
          have e2 : (row :: argsR l)[1 + manyT pre]? = some x.2.2 := by
            rw [show 1 + manyT pre = manyT pre + 1 by omega, List.getElem?_cons_succ, e1, List.getElem?_append_right (by rw [argsR_len]; exact Nat.le_refl _), argsR_len, Nat.sub_self]
            rfl
          rw [List.getElem?_eq_getElem ha] at e2
          exact Option.some.inj e2
        rw [stepP_arg ht' (by omega) ha, hget, hm, show 1 + manyT pre + 1 = 1 + (manyT pre + 1) by omega]
    rw [step]
    exact ih
theorem back (l : List Chg) (hg : ∀ x ∈ l, goodC x) (h4 : manyT l ≤ 4) : parseM (textM l) = l := by
  by_cases h : l = []
  · subst h; rfl
  · have e : textM l = bs (rowR none l) :: argsR l := by unfold textM; rw [if_neg h, textS_row, textS_args]
    rw [e]
    unfold parseM
    rw [dif_pos (by simp)]
    have := back_fold (bs (rowR none l)) l hg h4 l [] (by simp)
    simp only [List.getElem_cons_zero, bs_toList]
    rw [seqL_row l none true (.inl rfl) hg]
    have h0 : ([], 1, 0) = (([] : List Chg), 1 + manyT [], manyT []) := rfl
    rw [h0, this]
theorem back_parse (ps : List ByteArray) : parseM (textM (parseM ps)) = parseM ps := back _ (parse_good ps).1 (parse_good ps).2
end Go.Proofs.YtkbgpajconhgjaaGreatDoor
end
section
/- Layer 18: rows of changes and of texts, nil let in; Parse, Same, Texts of such rows; great. -/
namespace Go.Proofs.YtkbgpajconhgjaaGreatDoor
open Go.RowKit Go.Shelf

/-- changes lie at an address, if there are any -/
def RowC (W : World) (A : Option Addr) (l : List Chg) : Prop :=
  0 < l.length → ∃ g o, A = some ⟨g, o, none⟩ ∧ ∀ i (h : i < l.length), W.cell? ⟨g, o + i * 3, none⟩ = some (.bool l[i].1) ∧ W.cell? ⟨g, o + i * 3 + 1, none⟩ = some (.int .u8 l[i].2.1.toNat) ∧ W.cell? ⟨g, o + i * 3 + 2, none⟩ = some (.string l[i].2.2)
/-- texts lie at an address, if there are any -/
def RowT (W : World) (A : Option Addr) (l : List ByteArray) : Prop :=
  0 < l.length → ∃ g o, A = some ⟨g, o, none⟩ ∧ ∀ i (h : i < l.length), W.cell? ⟨g, o + i, none⟩ = some (.string l[i])
theorem lt_of_cell {W : World} {g o : Nat} {v : Value} (h : W.cell? ⟨g, o, none⟩ = some v) : g < W.heap.size := by
  unfold World.cell? at h
  cases hb : W.heap[g]? with
  | none => simp [hb] at h
  | some x => exact (Array.getElem?_eq_some_iff.1 hb).1
theorem RowC.kept {W W' : World} {A : Option Addr} {l : List Chg} (h : RowC W A l) (hb : Below W.heap.size W W') : RowC W' A l := fun hl => by
  obtain ⟨g, o, rfl, hc⟩ := h hl
  have hg := lt_of_cell (hc 0 hl).1
  exact ⟨g, o, rfl, fun i hi => by
    rw [hb.cell (p := ⟨g, _, none⟩) hg, hb.cell (p := ⟨g, _, none⟩) hg, hb.cell (p := ⟨g, _, none⟩) hg]
    exact hc i hi⟩
theorem RowT.kept {W W' : World} {A : Option Addr} {l : List ByteArray} (h : RowT W A l) (hb : Below W.heap.size W W') : RowT W' A l := fun hl => by
  obtain ⟨g, o, rfl, hc⟩ := h hl
  have hg := lt_of_cell (hc 0 hl)
  exact ⟨g, o, rfl, fun i hi => by rw [hb.cell (p := ⟨g, _, none⟩) hg]; exact hc i hi⟩
theorem chL_len (l : List Chg) : (chL l).length = l.length * 3 := by
  induction l with
  | nil => rfl
  | cons x r ih =>
    have : chL (x :: r) = [.bool x.1, .int .u8 x.2.1.toNat, .string x.2.2] ++ chL r := by simp [chL]
    rw [this, List.length_append, ih]; simp; omega
theorem chL_get (l : List Chg) : ∀ i (h : i < l.length), (chL l)[i * 3]? = some (.bool l[i].1) ∧ (chL l)[i * 3 + 1]? = some (.int .u8 l[i].2.1.toNat) ∧ (chL l)[i * 3 + 2]? = some (.string l[i].2.2) := by
  induction l with
  | nil => intro i h; simp at h
  | cons x r ih =>
    intro i h
    have e : chL (x :: r) = .bool x.1 :: .int .u8 x.2.1.toNat :: .string x.2.2 :: chL r := by simp [chL]
    cases i with
    | zero => rw [e]; exact ⟨rfl, rfl, rfl⟩
    | succ k =>
      have := ih k (by simpa using h)
      rw [e, show (k + 1) * 3 = k * 3 + 3 by omega]
      exact this

theorem RowT.owned {W : World} {base : Nat} {v : Value} {l : List ByteArray} (h : W.ownsRow base 9 1 v l.length (l.map .string)) : ∃ A c, v = .slice A l.length c ∧ l.length ≤ c ∧ RowT W A l := by
  have h0 := h
  rcases h.2 with ⟨rfl, hn⟩ | ⟨g, cap, cur, rfl, _, _, hc, _⟩
  · exact ⟨none, 0, by rw [hn], by omega, fun hl => by omega⟩
  · refine ⟨_, cap, rfl, hc, fun hl => ⟨g, 0, rfl, fun i hi => ?_⟩⟩
    rw [Nat.zero_add, h0.cellAt _ (by omega)]
    simp [hi]



def ParsedTo (w : World) (ps : List ByteArray) (e : Ending) (w' : World) : Prop := ∃ A c, e = .returned (.slice A (parseM ps).length c) ∧ (parseM ps).length ≤ c ∧ RowC w' A (parseM ps) ∧ Below w.heap.size w w'



/-! Same, Texts -/




set_option maxHeartbeats 4000000 in
theorem texts_any (A B : Option Addr) (a b : List ByteArray) (c1 c2 : Nat) (w : World) (ha1 : a.length ≤ 100000) (h1 : RowT w A a) (h2 : RowT w B b) :
    Calls Tryz.prog 8 #[.slice A a.length c1, .slice B b.length c2] w fun e w' => e = .returned (.bool (decide (a = b))) ∧ ∃ n, w' = w.drewN n := by
  by_cases hl : a.length = b.length
  · have H1 := Lib.hid h1
    have H2 := Lib.hid h2
    have HL := Lib.hid hl
    have hne : ((a.length : Int) != (b.length : Int)) = false := by rw [hl]; simp
    clear h1 h2 hl
    go_enter Tryz.func8, Tryz.ntmps8
    go_wp2_with fail
    go_loopw [5] (fun i wr => ∃ k : Nat, i = .int .i64 k ∧ k ≤ a.length ∧ Hid (a.take k = b.take k ∧ ∃ n, wr = w.drewN n)) (fun i _ => a.length - (Go.RowKit.intOf i).toNat)
    case atStart => exact ⟨0, rfl, Nat.zero_le _, rfl, 0, rfl⟩
    case round =>
      obtain ⟨k, rfl, hk, HQ⟩ := hrel
      by_cases hlt : k < a.length
      · have hlt2 : k < b.length := by have := HL.out; omega
        obtain ⟨g1, o1, rfl, k1⟩ := H1.out (by omega)
        obtain ⟨g2, o2, rfl, k2⟩ := H2.out (by omega)
        have ca : wr.cell? ⟨g1, o1 + k, none⟩ = some (.string a[k]) := by obtain ⟨_, n, hn⟩ := HQ.out; rw [hn]; exact k1 k hlt
        have cb : wr.cell? ⟨g2, o2 + k, none⟩ = some (.string b[k]) := by obtain ⟨_, n, hn⟩ := HQ.out; rw [hn]; exact k2 k hlt2
        obtain ⟨eb, heb⟩ : ∃ x, (a[k].toList == b[k].toList) = x := ⟨_, rfl⟩
        have hnq : (a[k].toList != b[k].toList) = !eb := by rw [← heb]; rfl
        have hnq2 : (!(a[k].toList == b[k].toList)) = !eb := by rw [heb]
        have HE := Lib.hid heb
        clear heb k1 k2
        have p1 : (k : Int) < (a.length : Int) := by omega
        have p2 : (k : Int) < (b.length : Int) := by omega
        cases eb with
        | false =>
          go_wp2_with fail
          go_quiet (fail)
          all_goals go_wp2_with fail
          have hd : decide (a = b) = false := by
            rw [decide_eq_false_iff_not]
            intro e
            have := HE.out
            simp only [e] at this
            simp at this
          obtain ⟨_, n, hn⟩ := HQ.out
          rw [hd]
          subst hn
          go_ret
          exact ⟨rfl, _, by rw [World.drewN_drewN]⟩
        | true =>
          go_wp2_with fail
          go_quiet (fail)
          all_goals go_wp2_with fail
          have h3 : a[k] = b[k] := by
            have := HE.out
            rw [beq_iff_eq, ByteArray.toList_eq, ByteArray.toList_eq] at this
            exact ba_ext this
          have h4 : a.take (k + 1) = b.take (k + 1) := by
            rw [List.take_succ_eq_append_getElem hlt, List.take_succ_eq_append_getElem hlt2, HQ.out.1, h3]
          obtain ⟨_, n, hn⟩ := HQ.out
          exact ⟨⟨k + 1, by go_num, by omega, h4, n + nq, by subst hn; rw [World.drewN_drewN]⟩, by simp [Go.RowKit.intOf]; omega⟩
      · obtain rfl : k = a.length := by omega
        have hab : a = b := by
          have := HQ.out.1
          rw [List.take_of_length_le (Nat.le_refl _), List.take_of_length_le (by have := HL.out; omega)] at this
          exact this
        have hd : decide (a = b) = true := by simp [hab]
        obtain ⟨_, n, hn⟩ := HQ.out
        have p1 : ¬ ((a.length : Int) < (a.length : Int)) := by omega
        subst hn
        have HD := Lib.hid hd
        clear hd hab
        go_wp2_with fail
        go_ret
        exact ⟨ret_bool HD.out.symm, _, rfl⟩
  · have hd : decide (a = b) = false := by rw [decide_eq_false_iff_not]; intro e; exact hl (by rw [e])
    have hne : ((a.length : Int) != (b.length : Int)) = true := by rw [bne_iff_ne]; omega
    rw [hd]
    clear hd hl h1 h2
    go_enter Tryz.func8, Tryz.ntmps8
    go_wp2_with fail
    go_ret
    exact ⟨rfl, 0, rfl⟩

/-- more than is looked at? -/
def greatB (l : List ByteArray) : Bool := decide (20 < l.length) || l.any fun s => decide (60 < s.size)
theorem greatB_no {l : List ByteArray} (h : greatB l = false) : l.length ≤ 20 ∧ ∀ s ∈ l, s.size ≤ 60 := by
  unfold greatB at h
  rw [Bool.or_eq_false_iff] at h
  refine ⟨by simpa using h.1, fun s hs => ?_⟩
  have := List.any_eq_false.1 h.2 s hs
  simpa using this
end Go.Proofs.YtkbgpajconhgjaaGreatDoor
end
section
/- The answers' Texts of two rows that read as one. -/
namespace Go.Proofs.YtkbgpajconhgjaaGreatDoor
open Go Go.RowKit Go.Lib Go.Shelf

theorem texts_is {W : World} {A B : Option Addr} {xs : List (List UInt8)} (c1 c2 : Nat) (hl : xs.length ≤ 100000) (h1 : ReadsT W A xs) (h2 : ReadsT W B xs) :
    Calls Tryz.prog 8 #[.slice A xs.length c1, .slice B xs.length c2] W fun e w' => e = .returned (.bool true) ∧ ∃ n, w' = W.drewN n := by
  have hR : ∀ {A : Option Addr}, ReadsT W A xs → RowT W A (xs.map bs) := fun {A} h h0 => by
    rw [List.length_map] at h0
    obtain ⟨g, o, e, _, hc⟩ := h h0
    refine ⟨g, o, e, fun i hi => ?_⟩
    rw [List.getElem_map]
    exact hc i (by rw [List.length_map] at hi; exact hi)
  have := texts_any A B (xs.map bs) (xs.map bs) c1 c2 W (by rw [List.length_map]; exact hl) (hR h1) (hR h2)
  rw [List.length_map, decide_eq_true rfl] at this
  exact this
/-- what a frame leaves reads as it read -/
theorem readsT_fr {W W' : World} {A : Option Addr} {xs : List (List UInt8)} {X : Nat → Prop} (h : ReadsT W A xs) (hf : Fr X W W') (hX : ∀ g o, A = some ⟨g, o, none⟩ → ¬ X g) : ReadsT W' A xs := fun h0 => by
  obtain ⟨g, o, e, hg, hc⟩ := h h0
  exact ⟨g, o, e, Nat.lt_of_lt_of_le hg hf.size, fun j hj => (hf.cell (p := ⟨g, o + j, none⟩) hg (hX g o e)).trans (hc j hj)⟩
end Go.Proofs.YtkbgpajconhgjaaGreatDoor
end
section
/- Layer 22: what is more than is looked at; what is laid; arguments opened. -/
namespace Go.Proofs.YtkbgpajconhgjaaGreatDoor
open Go Go.ChangeShapes Go.WideShapes Go.RowKit Go.Deep Go.Shelf

theorem great22 (a : Int) (n u h r y : ByteArray) (o d : Bool) (si sp : Int) (w : World) :
    Calls Tryz.prog 5 #[per a n u h r y o d si sp] w fun e w' => e = .returned (.bool (decide (200 < n.size ∨ 200 < u.size ∨ 200 < h.size ∨ 200 < r.size ∨ 200 < y.size))) ∧ Below w.heap.size w w' := by
  unfold per
  have hcase : (200 < n.size) ∨ (¬ 200 < n.size ∧ 200 < u.size) ∨ (¬ 200 < n.size ∧ ¬ 200 < u.size ∧ 200 < h.size) ∨ (¬ 200 < n.size ∧ ¬ 200 < u.size ∧ ¬ 200 < h.size ∧ 200 < r.size) ∨ (¬ 200 < n.size ∧ ¬ 200 < u.size ∧ ¬ 200 < h.size ∧ ¬ 200 < r.size ∧ 200 < y.size) ∨ (¬ 200 < n.size ∧ ¬ 200 < u.size ∧ ¬ 200 < h.size ∧ ¬ 200 < r.size ∧ ¬ 200 < y.size) := by omega
  rcases hcase with h1 | ⟨h1, h2⟩ | ⟨h1, h2, h3⟩ | ⟨h1, h2, h3, h4⟩ | ⟨h1, h2, h3, h4, h5⟩ | ⟨h1, h2, h3, h4, h5⟩
  · rw [decide_eq_true (by omega)]
    have k1 : (200 : Int) < n.size := by omega
    go_enter Tryz.func5, Tryz.ntmps5
    go_wp2_with fail
    go_ret
    exact ⟨ret_bool (by simp), (Below.refl _ _).alloc (Nat.le_refl _) _⟩
  · rw [decide_eq_true (by omega)]
    have k1 : ¬ (200 : Int) < n.size := by omega
    have k2 : (200 : Int) < u.size := by omega
    go_enter Tryz.func5, Tryz.ntmps5
    go_wp2_with fail
    go_ret
    exact ⟨ret_bool (by simp), (Below.refl _ _).alloc (Nat.le_refl _) _⟩
  · rw [decide_eq_true (by omega)]
    have k1 : ¬ (200 : Int) < n.size := by omega
    have k2 : ¬ (200 : Int) < u.size := by omega
    have k3 : (200 : Int) < h.size := by omega
    go_enter Tryz.func5, Tryz.ntmps5
    go_wp2_with fail
    go_ret
    exact ⟨ret_bool (by simp), (Below.refl _ _).alloc (Nat.le_refl _) _⟩
  · rw [decide_eq_true (by omega)]
    have k1 : ¬ (200 : Int) < n.size := by omega
    have k2 : ¬ (200 : Int) < u.size := by omega
    have k3 : ¬ (200 : Int) < h.size := by omega
    have k4 : (200 : Int) < r.size := by omega
    go_enter Tryz.func5, Tryz.ntmps5
    go_wp2_with fail
    go_ret
    exact ⟨ret_bool (by simp), (Below.refl _ _).alloc (Nat.le_refl _) _⟩
  · rw [decide_eq_true (by omega)]
    have k1 : ¬ (200 : Int) < n.size := by omega
    have k2 : ¬ (200 : Int) < u.size := by omega
    have k3 : ¬ (200 : Int) < h.size := by omega
    have k4 : ¬ (200 : Int) < r.size := by omega
    have k5 : (200 : Int) < y.size := by omega
    go_enter Tryz.func5, Tryz.ntmps5
    go_wp2_with fail
    go_ret
    exact ⟨ret_bool (by simp), (Below.refl _ _).alloc (Nat.le_refl _) _⟩
  · rw [decide_eq_false (by omega)]
    have k1 : ¬ (200 : Int) < n.size := by omega
    have k2 : ¬ (200 : Int) < u.size := by omega
    have k3 : ¬ (200 : Int) < h.size := by omega
    have k4 : ¬ (200 : Int) < r.size := by omega
    have k5 : ¬ (200 : Int) < y.size := by omega
    go_enter Tryz.func5, Tryz.ntmps5
    go_wp2_with fail
    go_ret
    exact ⟨ret_bool (by simp), (Below.refl _ _).alloc (Nat.le_refl _) _⟩

theorem shaped_max {W : World} (h : W.ShapedOpen Tryz.prog) : ∃ m : Int, W.cell? ⟨1, 0, none⟩ = some (.int .i64 m) :=
  cell_of_shapedOpen_int (zero := #[.int .i64 0]) (t := 3) h (of_decide_eq_true (by kernel_rfl)) (by kernel_rfl) rfl (by kernel_rfl) (by kernel_rfl) Tryz.underlying3
/-- a statement's conditions, the listed variables as they are laid, and the world in its shape -/
theorem handed_laid_shaped {H : Type} {enc : TypeId × Value → H} {a : Assume} {C : Checked} {os : Os} {f : FuncId} {fn : Func} {s : ChangeSpec} {conds : List PathCond} {apart fresh handsOn again : Bool} {X : World → Array Value → Prop}
    (hX : ∀ (w w' : World) (args : Array Value), w.heap = w'.heap → X w args → X w' args) (own : ownKnob C.prog.godebug = none) (st : os.Started) (ni : C.prog.inits.idxOf? f = none) (hfn : C.prog.funcs[f]? = some fn)
    (wit : ∃ (w : World) (tape : Tape) (i : Input), w.os = os ∧ (w.forCall tape i).Shaped C.prog ∧ i.vars = [] ∧ Input.okWide C.prog (w.forCall tape i) .any w.heap.size f i ∧
      ((s.pre enc C.prog fn conds apart (w.forCall tape i).memory i.args ∧ X (w.forCall tape i).memory i.args) ∧ sizedMet enc C.prog fn (OpenSpec.ofChange s) apart (w.forCall tape i).memory i.args) ∧ a.holds C.prog (lone (Frame.enter C.prog f i.args .normal) [] (w.forCall tape i)))
    (walk : ∀ (W : World) (base : Nat) (args : Array Value) (ds gs : List (DataW H)) (before : List MemPlace), (∀ (j : Nat) t v, fn.params[j]? = some t → args[j]? = some v → Value.okWide C.prog W .any base t v) →
      DataW.Whole enc C.prog fn.params.toList s.vars apart W args.toList ds gs before → conds.all (PathCond.test C.prog ⟨fn.params.toList, ds, s.plain.varTypes C.prog, gs⟩) = true →
      (DataW.weightsEach C.prog (fn.params.toList ++ s.plain.varTypes C.prog) (ds ++ gs)).all (· ≤ reachBytes) = true → X W args → W.ShapedOpen C.prog → a.holds C.prog (lone (Frame.enter C.prog f args .normal) [] W) →
      Calls C.prog f args W fun e W' => ∃ v, e = .returned v ∧ s.post enc C.prog fn apart fresh handsOn again W args v W') :
    ReturnsInHanded a C os f .any (fun w args => (s.pre enc C.prog fn conds apart w args ∧ X w args) ∧ sizedMet enc C.prog fn (OpenSpec.ofChange s) apart w args) (s.post enc C.prog fn apart fresh handsOn again) := by
  refine returnsInHanded_of_calls own st ni wit ?_
  rintro w tape i _ hshape _ ⟨_, _, _, fn2, hfn2, _, _, _, _, hval⟩ ⟨⟨⟨ds, gs, before, hw, hc⟩, hx⟩, hz⟩ hholds
  cases hfn2.symm.trans hfn
  refine (walk _ w.heap.size i.args ds gs before hval (DataW.Whole.of_heap (w' := w.forCall tape i) (by rfl) hw) hc (hz.weights hw) (hX (w.forCall tape i).memory (w.forCall tape i) i.args rfl hx) hshape hholds).mono ?_
  rintro e W' ⟨v, rfl, hp⟩
  exact ChangeSpec.post_blind hp

theorem pow_of14 {W : World} (h : laidMetH Tryz.prog [("math/bits.deBruijn32tab", Rows.laid_math_bits_deBruijn32tab), ("math/bits.deBruijn64tab", Rows.laid_math_bits_deBruijn64tab), ("internal/strconv.uint64pow10", Rows.laid_internal_strconv_uint64pow10), ("unicode/utf8.acceptRanges", Rows.laid_unicode_utf8_acceptRanges), ("unicode/utf8.first", Rows.laid_unicode_utf8_first)] W) : PowW W := by
  rw [MakeChecks.laidMetH_plain _ _ _ (by kernel_rfl)] at h
  obtain ⟨ps, ⟨_, _, _, _, _, _, _, _, _, _, ⟨_, _, _, _, _, _, _, _, _, _, ⟨g, t, cs, fuel, p, q, hg, ht, hv, hd, _, _⟩, _⟩, _⟩, _⟩ := h
  obtain rfl := Option.some.inj (powG14.symm.trans hg)
  obtain rfl := Option.some.inj ((show (Tryz.prog.globals[0]?).map (·.type) = some 102 by kernel_rfl).symm.trans ht)
  unfold PowW Lib.TabIs
  rw [hv, ← Lib.cells_of_tab (zs := Lib.pow10Tab) (k := .u64) Tryz.underlying102 Tryz.underlying56 (by kernel_rfl) (by kernel_rfl) hd]
set_option maxRecDepth 1000000 in
set_option maxHeartbeats 4000000 in
theorem open_perw {H : Type} {enc : TypeId × Value → H} {W : World} {base b0 : Nat} {spare : Nat → Bool} {held : Bool} {r : Reach} {v : Value} {d : DataW H} {p : List MemPlace}
    (hv : Value.okWide Tryz.prog W r b0 23 v) (h : DataW.Trod enc Tryz.prog W base spare held 23 v d p) :
    ∃ (m0 : Int) (s1 : ByteArray) (s2 : ByteArray) (s3 : ByteArray) (s4 : ByteArray) (s5 : ByteArray) (b6 : Bool) (b7 : Bool) (m8 : Int) (m9 : Int), v = per m0 s1 s2 s3 s4 s5 b6 b7 m8 m9 ∧ (Lit.int .i64 m8).wf = true ∧ s1.size ≤ maxLen ∧ s2.size ≤ maxLen ∧ s3.size ≤ maxLen ∧ s4.size ≤ maxLen ∧ s5.size ≤ maxLen := by
  have hC : Tryz.prog.cellsOf 23 = 10 := by kernel_rfl
  have ks : Tryz.prog.cellsOf 9 = 1 := by kernel_rfl
  have ki : Tryz.prog.cellsOf 3 = 1 := by kernel_rfl
  have kb : Tryz.prog.cellsOf 4 = 1 := by kernel_rfl
  obtain ⟨cs, rfl, hsz⟩ := okWide_struct Tryz.underlying23 hv
  obtain ⟨l⟩ := cs
  match l, hsz.trans hC with
  | [c0, c1, c2, c3, c4, c5, c6, c7, c8, c9], _ =>
    obtain ⟨fuel, hf⟩ := h
    obtain ⟨xs, n, _, hx, _, hlen, hg⟩ := DataW.trod_struct Tryz.underlying23 hf
    have hl : xs.length = 10 := hlen
    have gs : ∀ i, i < 10 → ∃ y, xs[i]? = some y := fun i hi => ⟨xs[i]'(by omega), List.getElem?_eq_getElem (by omega)⟩
    obtain ⟨y0, e0⟩ := gs 0 (by omega)
    have g0 := hg 0 _ rfl
    rw [e0] at g0
    obtain ⟨m0, q0, _, w0⟩ := DataW.trod_int Tryz.underlying3 g0
    simp [Value.cells, ki] at q0
    obtain ⟨y1, e1⟩ := gs 1 (by omega)
    have g1 := hg 1 _ rfl
    rw [e1] at g1
    obtain ⟨s1, q1, _, z1⟩ := DataW.trod_string Tryz.underlying9 g1
    simp [Value.cells, ks] at q1
    obtain ⟨y2, e2⟩ := gs 2 (by omega)
    have g2 := hg 2 _ rfl
    rw [e2] at g2
    obtain ⟨s2, q2, _, z2⟩ := DataW.trod_string Tryz.underlying9 g2
    simp [Value.cells, ks] at q2
    obtain ⟨y3, e3⟩ := gs 3 (by omega)
    have g3 := hg 3 _ rfl
    rw [e3] at g3
    obtain ⟨s3, q3, _, z3⟩ := DataW.trod_string Tryz.underlying9 g3
    simp [Value.cells, ks] at q3
    obtain ⟨y4, e4⟩ := gs 4 (by omega)
    have g4 := hg 4 _ rfl
    rw [e4] at g4
    obtain ⟨s4, q4, _, z4⟩ := DataW.trod_string Tryz.underlying9 g4
    simp [Value.cells, ks] at q4
    obtain ⟨y5, e5⟩ := gs 5 (by omega)
    have g5 := hg 5 _ rfl
    rw [e5] at g5
    obtain ⟨s5, q5, _, z5⟩ := DataW.trod_string Tryz.underlying9 g5
    simp [Value.cells, ks] at q5
    obtain ⟨y6, e6⟩ := gs 6 (by omega)
    have g6 := hg 6 _ rfl
    rw [e6] at g6
    obtain ⟨b6, q6, _⟩ := DataW.trod_bool Tryz.underlying4 g6
    simp [Value.cells, kb] at q6
    obtain ⟨y7, e7⟩ := gs 7 (by omega)
    have g7 := hg 7 _ rfl
    rw [e7] at g7
    obtain ⟨b7, q7, _⟩ := DataW.trod_bool Tryz.underlying4 g7
    simp [Value.cells, kb] at q7
    obtain ⟨y8, e8⟩ := gs 8 (by omega)
    have g8 := hg 8 _ rfl
    rw [e8] at g8
    obtain ⟨m8, q8, _, w8⟩ := DataW.trod_int Tryz.underlying3 g8
    simp [Value.cells, ki] at q8
    obtain ⟨y9, e9⟩ := gs 9 (by omega)
    have g9 := hg 9 _ rfl
    rw [e9] at g9
    obtain ⟨m9, q9, _, w9⟩ := DataW.trod_int Tryz.underlying3 g9
    simp [Value.cells, ki] at q9
    subst q0 q1 q2 q3 q4 q5 q6 q7 q8 q9
    exact ⟨m0, s1, s2, s3, s4, s5, b6, b7, m8, m9, rfl, w8, z1, z2, z3, z4, z5⟩
/-- the pieces of the law -/
def LdP (W : World) : Prop := Mx W ∧ PowW W
end Go.Proofs.YtkbgpajconhgjaaGreatDoor
end
