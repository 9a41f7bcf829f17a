/- Texts of this proof, one behind the other. -/
import Derived.Test.YtmgnhbihfgpccaaGreatDoorRoomPlaysG22
import Derived.Test.YtmgnhbihfgpccaaGreatDoorRoomPlaysG12
import Derived.Test.YtmgnhbihfgpccaaGreatDoorChecked
import Derived.Test.YtmgnhbihfgpccaaGreatDoorRoomPlaysG9
import Derived.Below
import Derived.ChangeSame
set_option linter.unusedVariables false
set_option linter.unusedSimpArgs false
section
/- Layer 19: RoomPlays, whatever is given. -/
namespace Go.Proofs.YtmgnhbihfgpccaaGreatDoor
open Go Go.RowKit

set_option maxRecDepth 100000 in
set_option maxHeartbeats 8000000 in
theorem roomPlays_walk (mb : Int) (A : Option Addr) (l : List Act19) (cc : Nat) (w : World) (hA : ReadsA w A l) (hl : l.length ≤ 9223372036854775807) (hr : Rowed w) (hp : PowR w) :
    Calls Tryz.prog 3 #[.int .i64 mb, .slice A l.length cc] w fun e w' => e = .returned (.bool true) ∧ RowKit.Below w.heap.size w w' := by
  cases hg : grA l with
  | true =>
    have HA := Lib.hid hA
    have HG := Lib.hid hg
    have HAW := Lib.hid (awake19 w hr hp)
    clear hA hg hr hp
    go_enter Tryz.func3, Tryz.ntmps3
    go_wp2_with fail
    refine HAW.out.mono ?_
    rintro e w1 ⟨rfl, b1⟩
    have B1 := Lib.hid b1
    clear b1
    go_wp2_with fail
    refine (great19 A cc l w1 (HA.out.below B1.out) hl).mono ?_
    rintro e w2 ⟨rfl, hw2⟩
    rw [hw2, HG.out]
    clear hw2
    go_wp2_with fail
    go_ret
    exact ⟨rfl, B1.out⟩
  | false => exact roomPlays_main mb A l cc w hg hA hr hp
end Go.Proofs.YtmgnhbihfgpccaaGreatDoor
end
section
/- An argument that is a slice of anything flat, opened. -/
namespace Go.Proofs.YtmgnhbihfgpccaaGreatDoor
open Go Go.ChangeShapes Go.WideShapes Go.RowKit Go.Deep

section
variable {H : Type} {enc : TypeId × Value → H} {P : Program} {W : World}
theorem open_elems {α : Type} [Inhabited α] {t e : TypeId} {base k : Nat} {v : Value} {d : DataW H} {p : List MemPlace} (hk : 0 < k) (encf : α → List Value) (G : α → Prop) (ht : P.underlying t = some (.slice e)) (hc : P.cellsOf e = k)
    (hdec : ∀ n cs y, cs.length = k → DataW.trod enc P W 0 (fun _ => true) true n e cs = some y → ∃ x, cs = encf x ∧ G x)
    (hval : Value.okWide P W .any base t v) (h : DataW.Trod enc P W 0 (fun _ => true) true t v d p) :
    ∃ (A : Option Addr) (l : List α) (c : Nat), v = .slice A l.length c ∧ l.length ≤ c ∧ c ≤ maxLen ∧ (∀ x ∈ l, G x) ∧
      (0 < l.length → ∃ g o, A = some ⟨g, o, none⟩ ∧ g < W.heap.size ∧ ∀ i (h : i < l.length) j u, (encf l[i])[j]? = some u → W.cell? ⟨g, o + i * k + j, none⟩ = some u) := by
  obtain ⟨A, n, c, rfl⟩ := okWide_slice ht hval
  obtain ⟨fuel, hf⟩ := h
  rcases open_slice ht hf with ⟨hcs, _⟩ | ⟨a, len, cap, m, n', D, Pl, hcs, _, hl, hm, hmm, _, hel⟩
  · have h3 : A = none ∧ n = 0 ∧ c = 0 := by simpa [Value.cells] using hcs
    obtain ⟨rfl, rfl, rfl⟩ := h3
    exact ⟨none, [], 0, rfl, Nat.le_refl _, by unfold maxLen; omega, by simp, fun h => absurd h (by simp)⟩
  · have h3 : A = some a ∧ n = len ∧ c = cap := by simpa [Value.cells] using hcs
    obtain ⟨rfl, rfl, rfl⟩ := h3
    simp only [if_true] at hmm
    have each : ∀ i, i < n → ∃ x : α, G x ∧ (encf x).length = k ∧ ∀ j u, (encf x)[j]? = some u → W.cell? ((a.add (i * k)).add j) = some u := by
      intro i hi
      obtain ⟨cs', h1, h2⟩ := hel i (by omega)
      rw [hc] at h1
      obtain ⟨_, hlen, hat⟩ := World.cells?_some h1
      obtain ⟨x, rfl, hg⟩ := hdec _ _ _ hlen h2
      refine ⟨x, hg, hlen, fun j u hu => ?_⟩
      have hj : j < k := by
        rw [← hlen]; exact (List.getElem?_eq_some_iff.1 hu).1
      rw [hat j hj, hu]
    obtain ⟨F, hF⟩ := choose_lt each
    refine ⟨some a, (List.range n).map F, c, by simp, by simpa using hl, hm, ?_, ?_⟩
    · intro x hx
      simp only [List.mem_map, List.mem_range] at hx
      obtain ⟨i, hi, rfl⟩ := hx
      exact (hF i hi).1
    · intro hpos
      simp only [List.length_map, List.length_range] at hpos
      obtain ⟨_, hl0, h0⟩ := hF 0 hpos
      have hq := h0 0 ((encf (F 0))[0]'(by omega)) (List.getElem?_eq_getElem (by omega))
      have hq : W.cell? (a.add 0) = some ((encf (F 0))[0]'(by omega)) := by
        have e : (a.add (0 * k)).add 0 = a.add 0 := by
          obtain ⟨b, o, s⟩ := a
          cases s <;> simp [Addr.add]
        rwa [e] at hq
      obtain ⟨g, o, rfl⟩ := spot_of hq
      have hg : g < W.heap.size := by
        have := block_lt_of_cell hq
        simpa [add_at] using this
      refine ⟨g, o, rfl, hg, fun i hi j u hu => ?_⟩
      simp only [List.length_map, List.length_range] at hi
      obtain ⟨_, _, hh⟩ := hF i hi
      have := hh j u (by simpa using hu)
      rwa [add_at, add_at] at this
end
end Go.Proofs.YtmgnhbihfgpccaaGreatDoor
end
section
/- Layer 19: acts that are given, opened: one by value, a slice of them. -/
namespace Go.Proofs.YtmgnhbihfgpccaaGreatDoor
open Go Go.ChangeShapes Go.WideShapes Go.RowKit

def actG (a : Act19) : Prop := a.s.length ≤ maxLen ∧ a.arg.length ≤ maxLen ∧ (Lit.int .i64 a.k).wf = true ∧ (Lit.int .i64 a.id).wf = true
instance : Inhabited Act19 := ⟨⟨0, 0, false, [], false, 0, []⟩⟩
set_option maxRecDepth 1000000 in
theorem dec_chg {H : Type} {enc : TypeId × Value → H} {W : World} {base : Nat} {spare : Nat → Bool} {held : Bool} {fuel : Nat} {cs : List Value} {y : DataW H × List MemPlace} (hlen : cs.length = 3) (hf : DataW.trod enc Tryz.prog W base spare held fuel 31 cs = some y) : ∃ (on : Bool) (l : UInt8) (arg : List UInt8), cs = [.bool on, .int .u8 l.toNat, .string (bs arg)] ∧ arg.length ≤ maxLen := by
  have ks : Tryz.prog.cellsOf 9 = 1 := by kernel_rfl
  have kb : Tryz.prog.cellsOf 4 = 1 := by kernel_rfl
  have ku : Tryz.prog.cellsOf 5 = 1 := by kernel_rfl
  match cs, hlen with
  | [c0, c1, c2], _ =>
    obtain ⟨xs, n, _, hx, _, hln, hg⟩ := DataW.trod_struct Tryz.underlying31 hf
    have hl : xs.length = 3 := hln
    have gs : ∀ i, i < 3 → ∃ y, xs[i]? = some y := fun i hi => ⟨xs[i]'(by omega), List.getElem?_eq_getElem (by omega)⟩
    obtain ⟨y0, e0⟩ := gs 0 (by omega)
    have g0 := hg 0 _ rfl
    rw [e0] at g0
    obtain ⟨b0, q0, _⟩ := DataW.trod_bool Tryz.underlying4 g0
    simp [kb] at q0
    obtain ⟨y1, e1⟩ := gs 1 (by omega)
    have g1 := hg 1 _ rfl
    rw [e1] at g1
    obtain ⟨m1, q1, _, z1⟩ := DataW.trod_int Tryz.underlying5 g1
    simp [ku] at q1
    obtain ⟨y2, e2⟩ := gs 2 (by omega)
    have g2 := hg 2 _ rfl
    rw [e2] at g2
    obtain ⟨s2, q2, _, z2⟩ := DataW.trod_string Tryz.underlying9 g2
    simp [ks] at q2
    subst q0 q1 q2
    simp only [Lit.wf, IntKind.has, Bool.and_eq_true, decide_eq_true_eq] at z1
    have h0 : (0 : Int) ≤ m1 := z1.1
    have h1 : m1 ≤ 255 := z1.2
    refine ⟨b0, UInt8.ofNat m1.toNat, s2.data.toList, ?_, z2⟩
    have : ((UInt8.ofNat m1.toNat).toNat : Int) = m1 := by simp; omega
    rw [this]
    rfl
set_option maxRecDepth 1000000 in
theorem dec_act {H : Type} {enc : TypeId × Value → H} {W : World} {base : Nat} {spare : Nat → Bool} {held : Bool} {fuel : Nat} {cs : List Value} {y : DataW H × List MemPlace} (hlen : cs.length = 7) (hf : DataW.trod enc Tryz.prog W base spare held fuel 33 cs = some y) : ∃ a, cs = encA a ∧ actG a := by
  have ks : Tryz.prog.cellsOf 9 = 1 := by kernel_rfl
  have ki : Tryz.prog.cellsOf 3 = 1 := by kernel_rfl
  have kb : Tryz.prog.cellsOf 4 = 1 := by kernel_rfl
  have kc : Tryz.prog.cellsOf 31 = 3 := by kernel_rfl
  match cs, hlen with
  | [c0, c1, c2, c3, c4, c5, c6], _ =>
    obtain ⟨xs, n, _, hx, _, hln, hg⟩ := DataW.trod_struct Tryz.underlying33 hf
    have hl : xs.length = 5 := hln
    have gs : ∀ i, i < 5 → ∃ y, xs[i]? = some y := fun i hi => ⟨xs[i]'(by omega), List.getElem?_eq_getElem (by omega)⟩
    obtain ⟨y0, e0⟩ := gs 0 (by omega)
    have g0 := hg 0 _ rfl
    rw [e0] at g0
    obtain ⟨m0, q0, _, z0⟩ := DataW.trod_int Tryz.underlying3 g0
    simp [ki] at q0
    obtain ⟨y1, e1⟩ := gs 1 (by omega)
    have g1 := hg 1 _ rfl
    rw [e1] at g1
    obtain ⟨m1, q1, _, z1⟩ := DataW.trod_int Tryz.underlying3 g1
    simp [ki] at q1
    obtain ⟨y2, e2⟩ := gs 2 (by omega)
    have g2 := hg 2 _ rfl
    rw [e2] at g2
    obtain ⟨b2, q2, _⟩ := DataW.trod_bool Tryz.underlying4 g2
    simp [kb] at q2
    obtain ⟨y3, e3⟩ := gs 3 (by omega)
    have g3 := hg 3 _ rfl
    rw [e3] at g3
    obtain ⟨s3, q3, _, z3⟩ := DataW.trod_string Tryz.underlying9 g3
    simp [ks] at q3
    obtain ⟨y4, e4⟩ := gs 4 (by omega)
    have g4 := hg 4 _ rfl
    rw [e4] at g4
    obtain ⟨on, l, arg, q4, z4⟩ := dec_chg (by simp [kc]) g4
    simp [kc] at q4
    obtain ⟨q4, q5, q6⟩ := q4
    subst q0 q1 q2 q3 q4 q5 q6
    exact ⟨⟨m0, m1, b2, s3.data.toList, on, l, arg⟩, rfl, z3, z4, z0, z1⟩
set_option maxRecDepth 1000000 in
theorem open_act {H : Type} {enc : TypeId × Value → H} {W : World} {base b0 : Nat} {spare : Nat → Bool} {held : Bool} {r : Reach} {v : Value} {d : DataW H} {p : List MemPlace}
    (hv : Value.okWide Tryz.prog W r b0 33 v) (h : DataW.Trod enc Tryz.prog W base spare held 33 v d p) : ∃ a : Act19, v = actV a ∧ actG a := by
  have hC : Tryz.prog.cellsOf 33 = 7 := by kernel_rfl
  obtain ⟨cs, rfl, hsz⟩ := okWide_struct Tryz.underlying33 hv
  obtain ⟨l⟩ := cs
  obtain ⟨fuel, hf⟩ := h
  obtain ⟨a, ha, hg⟩ := dec_act (hsz.trans hC) hf
  have e : l = encA a := ha
  subst e
  exact ⟨a, rfl, hg⟩
set_option maxRecDepth 1000000 in
theorem open_acts {H : Type} {enc : TypeId × Value → H} {W : World} {base : Nat} {v : Value} {d : DataW H} {p : List MemPlace} (hval : Value.okWide Tryz.prog W .any base 22 v) (h : DataW.Trod enc Tryz.prog W 0 (fun _ => true) true 22 v d p) :
    ∃ (A : Option Addr) (l : List Act19) (c : Nat), v = .slice A l.length c ∧ l.length ≤ c ∧ c ≤ maxLen ∧ (∀ x ∈ l, actG x) ∧ (0 < l.length → ∃ g o, A = some ⟨g, o, none⟩ ∧ g < W.heap.size ∧ ∀ i (h : i < l.length) j u, (encA l[i])[j]? = some u → W.cell? ⟨g, o + i * 7 + j, none⟩ = some u) := by
  have hc : Tryz.prog.cellsOf 33 = 7 := by kernel_rfl
  exact open_elems (by decide) encA actG Tryz.underlying22 hc (fun _ _ _ hl hf => dec_act hl hf) hval h
end Go.Proofs.YtmgnhbihfgpccaaGreatDoor
end
section
/- A law's last step where the call has made memory of its own, of whatever sort: what lay before lies as it lay, so each argument reads as it read. -/
namespace Go.Proofs.YtmgnhbihfgpccaaGreatDoor
open Go Go.RowKit Go.WideShapes Go.ChangeShapes

theorem post_below {H : Type} {enc : TypeId × Value → H} {P : Program} {f : Func} {s : ChangeSpec} {apart fresh handsOn again : Bool} {W W' : World} {args : Array Value} {v : Value} {ds gs : List (DataW H)} {all pa pv : List MemPlace}
    (hW : DataW.Whole enc P f.params.toList s.vars apart W args.toList ds gs all)
    (hr : ∀ (b : Nat) (sp : Nat → Bool) (hd : Bool), DataW.TrodAll enc P W' b sp hd f.resultTypes.toList (v.resultList f.resultTypes.size) (s.fn H (ds ++ gs)).results [])
    (ha : ∀ sp : Nat → Bool, (∀ p ∈ all, sp p.block = true) → DataW.TrodAll enc P W' 0 sp true f.params.toList args.toList (s.fn H (ds ++ gs)).args pa)
    (hv : ∀ sp : Nat → Bool, (∀ p ∈ all, sp p.block = true) → DataW.TrodVars enc P W' sp s.vars (s.fn H (ds ++ gs)).vars pv)
    (hpl : all = pa ++ pv) (hB : Below W.heap.size W W')
    (hok : ∀ (j : Nat) (t : TypeId) (r : Value), f.resultTypes[j]? = some t → (v.resultList f.resultTypes.size)[j]? = some r → Value.okWide P W' .any 0 t r) :
    s.post enc P f apart fresh handsOn again W args v W' := by
  have low : ∀ p ∈ all, p.block < W.heap.size := fun p hp => hW.lt p hp
  refine ⟨ds, gs, all, [], pa, pv, hW, hr _ _ _, ha (fun b => decide (b < W.heap.size)) fun p hp => by simpa using low p hp, hv (fun b => decide (b < W.heap.size)) fun p hp => by simpa using low p hp,
    World.keptBut_mono (fun p hp => ⟨hp, .inr (by rw [hpl, List.mem_append] at hp; exact hp)⟩) (hB.frame (· ∈ all)), fun _ => ?_⟩
  obtain ⟨_, _, _, _, _, hfrozen, hapart⟩ := hW
  have same : ∀ p : MemPlace, p ∈ ([] ++ pa) ++ pv → p ∈ all := fun p hp => by rw [hpl]; simpa using hp
  refine ⟨hok, _, _, ([] ++ pa) ++ pv, ⟨[] ++ pa, pv, trodAll_append (ha _ fun _ _ => rfl) (hr _ _ _), hv _ fun _ _ => rfl, rfl, fun b off hp => ?_, fun h => ?_⟩, fun p hp _ => ?_⟩
  · rw [hB.frozen (low _ (same _ hp))]
    exact hfrozen b off (same _ hp)
  · have := hapart h
    rw [hpl] at this
    simpa using this
  · rw [hpl]
    simpa using hp
end Go.Proofs.YtmgnhbihfgpccaaGreatDoor
end
