/- Texts of this proof, one behind the other. -/
import Derived.Below
import Derived.Carry
import Derived.Deep.Strs
import Derived.ChangeSame
import Derived.DataReads
import Derived.ProofKit
import Derived.OpenShut
import Derived.Test.YtkbgpajconhgjaaGreatDoorPersonLinesG1
set_option linter.unusedVariables false
set_option linter.unusedSimpArgs false
section
/- A law's arguments: slices of texts, of structs, opened; what was only read reads as it read. -/
namespace Go.Proofs.YtkbgpajconhgjaaGreatDoor
open Go Go.ChangeShapes Go.WideShapes Go.RowKit Go.Deep

section
variable {H : Type} {enc : TypeId × Value → H} {P : Program} {W W' : World}

/-- is each of these types one that can be read again? -/
def readAll (P : Program) (ts : List TypeId) : Bool := ts.all fun t => P.readableRec t && decide (t < P.types.size)
theorem stays_all (hl : laidOutB P = true) (hB : Below W.heap.size W W') {sp : Nat → Bool} : ∀ (ts : List TypeId) (vs : List Value) (ds : List (DataW H)) (ps : List MemPlace), readAll P ts = true →
    DataW.TrodAll enc P W 0 (fun _ => true) true ts vs ds ps → (∀ x ∈ ps, x.block < W.heap.size) → (∀ x ∈ ps, sp x.block = true) → DataW.TrodAll enc P W' 0 sp true ts vs ds ps
  | [], vs, ds, ps, _, h, _, _ => by
    obtain ⟨rfl, rfl, rfl⟩ := trodAll_nil h
    exact trodAll_mk0
  | t :: ts, vs, ds, ps, hr, h, hlt, hs => by
    obtain ⟨v, vs1, d, ds1, p, q, rfl, rfl, rfl, h1, h2⟩ := trodAll_cons h
    unfold readAll at hr
    rw [List.all_cons, Bool.and_eq_true, Bool.and_eq_true] at hr
    obtain ⟨⟨hr1, hr2⟩, hr3⟩ := hr
    refine trodAll_cons_mk ?_ (stays_all hl hB ts vs1 ds1 q hr3 h2 (fun x hx => hlt x (by simp [hx])) (fun x hx => hs x (by simp [hx])))
    exact WideElems.Trod_stays hl hr1 (of_decide_eq_true hr2) h1 (fun x hx => hB.same (hlt x (by simp [hx]))) (fun x hx => hs x (by simp [hx]))

theorem spot_of {a : Addr} {v : Value} (h : W.cell? (a.add 0) = some v) : ∃ g o, a = ⟨g, o, none⟩ := by
  have := World.cell?_spot h
  obtain ⟨g, o, s⟩ := a
  simp [Addr.add] at this
  subst this
  exact ⟨g, o, rfl⟩
theorem add_at (g o n : Nat) : (⟨g, o, none⟩ : Addr).add n = ⟨g, o + n, none⟩ := by
  unfold Addr.add
  split
  · simp_all
  · rfl

theorem open_texts {t e : TypeId} {base : Nat} {v : Value} {d : DataW H} {p : List MemPlace} (ht : P.underlying t = some (.slice e)) (he : P.underlying e = some .string) (hc : P.cellsOf e = 1)
    (hval : Value.okWide P W .any base t v) (h : DataW.Trod enc P W 0 (fun _ => true) true t v d p) :
    ∃ (A : Option Addr) (ss : List ByteArray) (c : Nat), v = .slice A ss.length c ∧ ss.length ≤ c ∧ c ≤ maxLen ∧ (∀ s ∈ ss, s.size ≤ maxLen) ∧ (0 < ss.length → ∃ g o, A = some ⟨g, o, none⟩ ∧ ∀ i (h : i < ss.length), W.cell? ⟨g, o + i, none⟩ = some (.string ss[i])) := by
  obtain ⟨A, n, c, rfl⟩ := okWide_slice ht hval
  obtain ⟨fuel, hf⟩ := h
  rcases open_strs ht he hc hf with ⟨hcs, _⟩ | ⟨a, len, cap, m, Sx, hcs, _, hl, hm, hmm, _, hcell⟩
  · have h3 : A = none ∧ n = 0 ∧ c = 0 := by simpa [Value.cells] using hcs
    obtain ⟨rfl, rfl, rfl⟩ := h3
    exact ⟨none, [], 0, rfl, Nat.le_refl _, by unfold maxLen; omega, by simp, fun h => absurd h (by simp)⟩
  · have h3 : A = some a ∧ n = len ∧ c = cap := by simpa [Value.cells] using hcs
    obtain ⟨rfl, rfl, rfl⟩ := h3
    simp only [if_true] at hmm
    refine ⟨some a, (List.range n).map Sx, c, by simp, by simpa using hl, hm, ?_, ?_⟩
    · intro s hs
      simp only [List.mem_map, List.mem_range] at hs
      obtain ⟨i, hi, rfl⟩ := hs
      exact (hcell i (by omega)).2
    · intro hpos
      simp only [List.length_map, List.length_range] at hpos
      obtain ⟨g, o, rfl⟩ := spot_of (hcell 0 (by omega)).1
      refine ⟨g, o, rfl, fun i hi => ?_⟩
      simp only [List.length_map, List.length_range] at hi
      have := (hcell i (by omega)).1
      rw [add_at] at this
      simpa using this

/-- structs of three fields: a boolean, a byte, a text -/
theorem open_bus {t e tb tu ts : TypeId} {fs : Array Field} {base : Nat} {v : Value} {d : DataW H} {p : List MemPlace} (ht : P.underlying t = some (.slice e)) (he : P.underlying e = some (.struct fs)) (hc : P.cellsOf e = 3)
    (hfs : fs.toList.map (fun f => (f.type, f.offset)) = [(tb, 0), (tu, 1), (ts, 2)]) (ub : P.underlying tb = some .bool) (uu : P.underlying tu = some (.int .u8)) (us : P.underlying ts = some .string) (kb : P.cellsOf tb = 1) (ku : P.cellsOf tu = 1) (ks : P.cellsOf ts = 1)
    (hval : Value.okWide P W .any base t v) (h : DataW.Trod enc P W 0 (fun _ => true) true t v d p) :
    ∃ (A : Option Addr) (l : List (Bool × UInt8 × ByteArray)) (c : Nat), v = .slice A l.length c ∧ l.length ≤ c ∧ c ≤ maxLen ∧ (∀ x ∈ l, x.2.2.size ≤ maxLen) ∧
      (0 < l.length → ∃ g o, A = some ⟨g, o, none⟩ ∧ ∀ i (h : i < l.length), W.cell? ⟨g, o + i * 3, none⟩ = some (.bool l[i].1) ∧ W.cell? ⟨g, o + i * 3 + 1, none⟩ = some (.int .u8 l[i].2.1.toNat) ∧ W.cell? ⟨g, o + i * 3 + 2, none⟩ = some (.string l[i].2.2)) := by
  obtain ⟨A, n, c, rfl⟩ := okWide_slice ht hval
  obtain ⟨fuel, hf⟩ := h
  rcases open_slice ht hf with ⟨hcs, _⟩ | ⟨a, len, cap, m, k, D, Pl, hcs, _, hl, hm, hmm, _, hel⟩
  · have h3 : A = none ∧ n = 0 ∧ c = 0 := by simpa [Value.cells] using hcs
    obtain ⟨rfl, rfl, rfl⟩ := h3
    exact ⟨none, [], 0, rfl, Nat.le_refl _, by unfold maxLen; omega, by simp, fun h => absurd h (by simp)⟩
  · have h3 : A = some a ∧ n = len ∧ c = cap := by simpa [Value.cells] using hcs
    obtain ⟨rfl, rfl, rfl⟩ := h3
    simp only [if_true] at hmm
    have each : ∀ i, i < n → ∃ x : Bool × UInt8 × ByteArray, x.2.2.size ≤ maxLen ∧ W.cell? ((a.add (i * 3)).add 0) = some (.bool x.1) ∧ W.cell? ((a.add (i * 3)).add 1) = some (.int .u8 x.2.1.toNat) ∧ W.cell? ((a.add (i * 3)).add 2) = some (.string x.2.2) := by
      intro i hi
      obtain ⟨cs', h1, h2⟩ := hel i (by omega)
      rw [hc] at h1
      obtain ⟨_, hlen, hat⟩ := World.cells?_some h1
      obtain ⟨xs, k', _, _, _, hxl, hx⟩ := DataW.trod_struct he h2
      obtain ⟨fl⟩ := fs
      rcases fl with _ | ⟨f0, _ | ⟨f1, _ | ⟨f2, _ | ⟨f3, fl⟩⟩⟩⟩
      all_goals simp only [List.map_nil, List.map_cons, List.cons.injEq, Prod.mk.injEq, reduceCtorEq, and_false, and_true, false_and] at hfs
      obtain ⟨⟨t0, z0⟩, ⟨t1, z1⟩, t2, z2⟩ := hfs
      match cs', hlen with
      | [v0, v1, v2], _ =>
        match xs, hxl with
        | [y0, y1, y2], _ =>
          have g0 := hx 0 f0 rfl
          have g1 := hx 1 f1 rfl
          have g2 := hx 2 f2 rfl
          rw [t0, z0, kb] at g0
          rw [t1, z1, ku] at g1
          rw [t2, z2, ks] at g2
          obtain ⟨b, e0, _⟩ := DataW.trod_bool ub g0
          obtain ⟨u, e1, _, hw⟩ := DataW.trod_int uu g1
          obtain ⟨s, e2, _, hs⟩ := DataW.trod_string us g2
          simp only [List.drop_zero, List.drop_succ_cons, List.take_succ_cons, List.take_zero, List.cons.injEq, and_true] at e0 e1 e2
          subst e0; subst e1; subst e2
          simp only [Lit.wf, IntKind.has, Bool.and_eq_true, decide_eq_true_eq] at hw
          have hu0 : 0 ≤ u ∧ u ≤ 255 := ⟨hw.1, hw.2⟩
          have hu : ((UInt8.ofNat u.toNat).toNat : Int) = u := by
            rw [UInt8.toNat_ofNat']
            have : u.toNat < 256 := by omega
            rw [Nat.mod_eq_of_lt (by simpa using this)]
            omega
          refine ⟨(b, UInt8.ofNat u.toNat, s), hs, (hat 0 (by omega)).trans rfl, (hat 1 (by omega)).trans ?_, (hat 2 (by omega)).trans rfl⟩
          show some (Value.int .u8 u) = some (.int .u8 ((UInt8.ofNat u.toNat).toNat : Int))
          rw [hu]
    obtain ⟨F, hF⟩ := choose_lt each
    refine ⟨some a, (List.range n).map F, c, by simp, by simpa using hl, hm, ?_, ?_⟩
    · intro x hx
      simp only [List.mem_map, List.mem_range] at hx
      obtain ⟨i, hi, rfl⟩ := hx
      exact (hF i hi).1
    · intro hpos
      simp only [List.length_map, List.length_range] at hpos
      have h00 := (hF 0 hpos).2.1
      have h000 : W.cell? (a.add 0) = some (.bool (F 0).1) := by simpa [Addr.add] using h00
      obtain ⟨g, o, rfl⟩ := spot_of h000
      refine ⟨g, o, rfl, fun i hi => ?_⟩
      simp only [List.length_map, List.length_range] at hi
      obtain ⟨_, q0, q1, q2⟩ := hF i hi
      rw [add_at, add_at] at q0 q1 q2
      simpa using ⟨q0, q1, q2⟩
end
end Go.Proofs.YtkbgpajconhgjaaGreatDoor
end
