/- Layer 16: a pulse of known connections, in words of the connections alone; awake. -/
import Derived.Test.YtbgmjieagnmpkaaPulD
namespace Go.Proofs.Ytbgmjieagnmpkaa
set_option linter.unusedVariables false
set_option linter.unusedSimpArgs false
open Go Go.RowKit Go.Maps Go.Sort Go.Shelf Go.Lib

theorem wf8 {a : Int} (h : (Lit.int .u8 a).wf = true) : 0 ≤ a ∧ a ≤ 255 := by
  simp only [Lit.wf, IntKind.has, Bool.and_eq_true, decide_eq_true_eq] at h
  exact ⟨h.1, h.2⟩
theorem len_sub : ∀ {l m : List Int}, l.Nodup → (∀ x ∈ l, x ∈ m) → l.length ≤ m.length
  | [], m, _, _ => Nat.zero_le _
  | a :: r, m, hn, hs => by
    rw [List.nodup_cons] at hn
    have ha := hs a (List.mem_cons_self ..)
    have h1 := len_sub (m := m.erase a) hn.2 fun x hx => (List.mem_erase_of_ne (fun (e : x = a) => hn.1 (e ▸ hx))).2 (hs x (List.mem_cons_of_mem _ hx))
    have h2 := List.length_erase_of_mem ha
    have h3 := List.length_pos_of_mem ha
    rw [List.length_cons]; omega
theorem RelP.lens {pg gr rg : Int} {C : List Cn} {L Q A : Tab} (h : RelP pg gr rg C L Q A) : L.length ≤ C.length ∧ Q.length ≤ C.length ∧ A.length ≤ C.length := by
  have key : ∀ {T : Tab}, (T.map (·.1)).Nodup → (∀ i v, (i, v) ∈ T → ∃ c ∈ C, c.id = i) → T.length ≤ C.length := fun {T} hn hs => by
    have := len_sub (m := C.map (·.id)) hn fun x hx => by
      obtain ⟨p, hp, rfl⟩ := List.mem_map.1 hx
      obtain ⟨c, hc, e⟩ := hs p.1 p.2 hp
      exact List.mem_map.2 ⟨c, hc, e⟩
    rwa [List.length_map, List.length_map] at this
  exact ⟨key h.nl fun i v hv => by obtain ⟨c, h1, h2, _⟩ := (h.l i v).1 hv; exact ⟨c, h1, h2⟩, key h.nq fun i v hv => by obtain ⟨c, h1, h2, _⟩ := (h.q i v).1 hv; exact ⟨c, h1, h2⟩, key h.na fun i v hv => by obtain ⟨c, h1, h2, _⟩ := (h.a i v).1 hv; exact ⟨c, h1, h2⟩⟩
/-- a pulse of these connections; what was there lies as it lay -/
structure PulS (w W : World) (B : PB) (pg gr rg : Int) (C : List Cn) : Prop where
  below : RowKit.Below w.heap.size w W
  pul : ∃ L Q A, PulG w.heap.size W B pg gr rg L Q A ∧ RelP pg gr rg C L Q A
section
variable {w W W1 : World} {B : PB} {pg gr rg : Int} {C : List Cn}
theorem PulS.lt (h : PulS w W B pg gr rg C) : ∀ k, B.X k → k < W.heap.size := fun k hk => by
  obtain ⟨L, Q, A, g, _⟩ := h.pul
  have := g.lt
  rcases hk with rfl | rfl | rfl <;> omega
theorem PulS.step {L Q A : Tab} {C1 : List Cn} (h : PulS w W B pg gr rg C) (g : PulG w.heap.size W1 B pg gr rg L Q A) (hf : Fr B.X W W1) (hr : RelP pg gr rg C1 L Q A) : PulS w W1 B pg gr rg C1 :=
  ⟨h.below.trans (hf.below h.below.size fun k _ e => g.ge k e), L, Q, A, g, hr⟩
theorem PulS.still (h : PulS w W B pg gr rg C) (hf : Fr (fun _ => False) W W1) : PulS w W1 B pg gr rg C := by
  obtain ⟨L, Q, A, g, hr⟩ := h.pul
  exact ⟨h.below.trans (hf.below h.below.size fun _ _ e => e.elim), L, Q, A, g.fr hf fun k e => e.elim, hr⟩
end
theorem s_new {pg gr rg : Int} (hp : 1 ≤ pg ∧ pg ≤ 1000000 ∧ 1 ≤ gr ∧ gr ≤ 1000000 ∧ 1 ≤ rg ∧ rg ≤ 1000000) {w W : World} (hb : RowKit.Below w.heap.size w W) : Calls Try.prog 29 #[cfgV pg gr rg] W fun e W' => ∃ B : PB, e = .returned (.pointer (some ⟨B.p, 0, none⟩)) ∧ PulS w W' B pg gr rg [] ∧ (∀ k, B.X k → W.heap.size ≤ k) ∧ W.heap.size ≤ B.p :=
  (pul_new hp W).mono fun e W' ⟨B, he, g, b⟩ => by
    refine ⟨B, he, ⟨hb.trans (b.mono hb.size), [], [], [], ?_, ?_⟩, g.ge, g.bp⟩
    · have hz := hb.size
      have base : ∀ {V : World} {t m : Nat} {T : Tab}, TabI W.heap.size V t m T → TabI w.heap.size V t m T := fun h => ⟨Nat.le_trans hz h.1, Nat.le_trans hz h.2.1, h.2.2⟩
      exact ⟨Nat.le_trans hz g.bp, g.box, base g.tl, base g.tq, base g.ta, g.far, g.pb, g.sl, g.sq, g.sa⟩
    · exact ⟨by simp, by simp, by simp, by simp, fun i v => by simp, fun i v => by simp, fun i v => by simp⟩
section
variable {w W : World} {B : PB} {pg gr rg : Int} {C : List Cn}
theorem s_leave (h : PulS w W B pg gr rg C) {id : Int} (hk : OkKI id) : Calls Try.prog 34 #[.pointer (some ⟨B.p, 0, none⟩), .int .i64 id] W fun e W' => e = .returned (.tuple #[]) ∧ PulS w W' B pg gr rg (leaveC C id) ∧ Fr B.X W W' := by
  obtain ⟨L, Q, A, g, hr⟩ := h.pul
  exact (pul_leave g hk).mono fun e W' ⟨he, g1, f1⟩ => ⟨he, h.step g1 f1 (hr.leave id), f1⟩
theorem s_join (h : PulS w W B pg gr rg C) {id now : Int} (hk : OkKI id) (hn : 0 ≤ now ∧ now ≤ 100000000000) (hl : C.length ≤ 900) : Calls Try.prog 38 #[.pointer (some ⟨B.p, 0, none⟩), .int .i64 id, .int .i64 now] W fun e W' => e = .returned (.tuple #[]) ∧ PulS w W' B pg gr rg (joinC C id now) ∧ Fr B.X W W' := by
  obtain ⟨L, Q, A, g, hr⟩ := h.pul
  exact (pul_join g hk hn (by have := hr.lens; omega)).mono fun e W' ⟨he, g1, f1⟩ => ⟨he, h.step g1 f1 (hr.join id now), f1⟩
theorem reg_rel {L Q A : Tab} (hr : RelP pg gr rg C L Q A) (id now : Int) : RelP pg gr rg (regC C id now) (regT pg now id (tickM pg gr rg L Q A id) L Q A).1 (regT pg now id (tickM pg gr rg L Q A id) L Q A).2.1 (regT pg now id (tickM pg gr rg L Q A id) L Q A).2.2 := by
  rw [hr.tick]
  unfold regT
  cases hf : findC C id with
  | none =>
    simp only [Option.map_none, Option.isSome_none, Bool.false_eq_true, if_false]
    rw [regC_none (findC_none.1 hf)]
    exact hr
  | some c =>
    simp only [Option.map_some, Option.isSome_some, if_true]
    obtain ⟨h1, h2⟩ := (findC_some hr.ids).1 hf
    exact hr.reg id now h1 h2
theorem s_reg (h : PulS w W B pg gr rg C) {id now : Int} (hk : OkKI id) (hn : 0 ≤ now ∧ now ≤ 100000000000) (hl : C.length ≤ 900) : Calls Try.prog 30 #[.pointer (some ⟨B.p, 0, none⟩), .int .i64 id, .int .i64 now] W fun e W' => e = .returned (.tuple #[]) ∧ PulS w W' B pg gr rg (regC C id now) ∧ Fr B.X W W' := by
  obtain ⟨L, Q, A, g, hr⟩ := h.pul
  exact (pul_reg g hk hn (by have := hr.lens; omega)).mono fun e W' ⟨he, g1, f1⟩ => ⟨he, h.step g1 f1 (reg_rel hr id now), f1⟩
theorem s_line (h : PulS w W B pg gr rg C) {id now : Int} (hk : OkKI id) (hn : 0 ≤ now ∧ now ≤ 100000000000) (hl : C.length ≤ 900) : Calls Try.prog 32 #[.pointer (some ⟨B.p, 0, none⟩), .int .i64 id, .int .i64 now] W fun e W' => e = .returned (.tuple #[]) ∧ PulS w W' B pg gr rg (lineC C id now) ∧ Fr B.X W W' := by
  obtain ⟨L, Q, A, g, hr⟩ := h.pul
  refine (pul_line g hk hn (by have := hr.lens; omega)).mono fun e W' ⟨he, g1, f1⟩ => ⟨he, h.step g1 f1 ?_, f1⟩
  have hlate := hr.late id
  have hreg := reg_rel hr id now
  rw [lineC_eq hr.ids]
  unfold lineT
  cases hf : findC C id with
  | none =>
    rw [hf] at hlate
    rw [regC_none (findC_none.1 hf)] at hreg
    rw [hlate]
    simpa using hreg
  | some c =>
    rw [hf] at hlate
    simp only at hlate ⊢
    rw [hlate]
    cases hi : c.inn with
    | true => simpa using hreg
    | false => simpa using hr
theorem s_idle (h : PulS w W B pg gr rg C) {id now : Int} (hk : OkKI id) (hn : 0 ≤ now ∧ now ≤ 100000000000) : Calls Try.prog 40 #[.pointer (some ⟨B.p, 0, none⟩), .int .i64 id, .int .i64 now] W fun e W' => e = .returned (idleV now ((findC C id).map (·.at_))) ∧ PulS w W' B pg gr rg C ∧ Fr (fun _ => False) W W' := by
  obtain ⟨L, Q, A, g, hr⟩ := h.pul
  refine (pul_idle g hk hn).mono fun e W' ⟨he, f1⟩ => ⟨by rw [he, hr.tick], h.still f1, f1⟩
/-- just this is due -/
def IsDue (pg gr rg now : Int) (C : List Cn) (R : List (Int × Int)) : Prop := (R.Pairwise fun x y => x.1 < y.1) ∧ ∀ i k, (i, k) ∈ R ↔ ∃ c ∈ C, c.id = i ∧ whatC pg gr rg now c = k ∧ k ≠ 0
theorem s_same (h : PulS w W B pg gr rg C) {now : Int} (hn : 0 ≤ now ∧ now ≤ 100000000000) (hl : C.length ≤ 900) {R : List (Int × Int)} (hR : IsDue pg gr rg now C R) (hRl : R.length ≤ 1000000) (A : Option Addr) (c : Nat) (hA : ReadsD W A R) (hAZ : ∀ g o, 0 < R.length → A = some ⟨g, o, none⟩ → ¬ B.X g) :
    Calls Try.prog 36 #[.pointer (some ⟨B.p, 0, none⟩), .slice A R.length c, .int .i64 now] W fun e W' => e = .returned (.bool true) ∧ PulS w W' B pg gr rg (dueC pg gr rg now C) ∧ Fr B.X W W' := by
  obtain ⟨L, Q, A0, g, hr⟩ := h.pul
  have hlens := hr.lens
  have hpb := g.pb
  have hd : ∀ q, q ∈ dueMI Q now ↔ q ∈ Q ∧ q.2 ≤ now := fun q => dueMI_mem
  have hlt := g.lt
  have ndd : ((dueMI Q now).map (·.1)).Nodup := by
    unfold dueMI
    exact ((sortTI_perm _).map _).nodup_iff.2 (hr.nq.sublist ((List.filter_sublist).map _))
  have hrel := hr.due now (by omega) hd ndd
  refine (same16 B.X (fun V => PulG w.heap.size V B pg gr rg L ((dueMI Q now).foldl (stepQ gr now) Q) ((dueMI Q now).foldl (stepA gr now) A0)) h.lt (fun V V' hg hf => hg.fr hf fun k e => ?_) (fun V hf => ?_) hRl A c hA hAZ).mono fun e W' ⟨he, g1, f1⟩ => ⟨he, h.step g1 f1 hrel, f1⟩
  · have e' : W.heap.size ≤ k := e
    omega
  · refine (pul_due (g.fr hf fun k e => e.elim) hr.disj hn (by omega)).mono fun e W' ⟨⟨F, R2, he, ht, h1, h2, h3⟩, g1, f1⟩ => ⟨⟨F, he, ?_⟩, g1, f1⟩
    have : R2 = R := rise_fst h1 hR.1 fun p => by
      rw [h2, show p = (p.1, p.2) from rfl, hr.rows_mem now (by omega) (fun p => dueMI_mem) (fun p => dueMI_mem) (fun p => dueMI_mem), hR.2]
    rw [← this]; exact ht
end
theorem reads_lit (w : World) (x y : Int) : ReadsD (w.alloc (Obj.cells #[.int .i64 x, .int .i64 y] 83)) (some ⟨w.heap.size, 0, none⟩) [(x, y)] := fun _ => by
  have hk := heap_alloc_new w (Obj.cells #[.int .i64 x, .int .i64 y] 83)
  refine ⟨w.heap.size, 0, rfl, by simp, fun j hj => ?_⟩
  obtain rfl : j = 0 := by simp at hj; omega
  exact ⟨blk_cell hk 0, blk_cell hk 1⟩
theorem reads_none (w : World) : ReadsD w none [] := fun h => by simp at h
/-- of one connection alone -/
theorem due_one (pg gr rg now : Int) (c : Cn) : IsDue pg gr rg now [c] (if whatC pg gr rg now c = 0 then [] else [(c.id, whatC pg gr rg now c)]) := by
  unfold IsDue
  by_cases h : whatC pg gr rg now c = 0
  · rw [if_pos h]
    refine ⟨by simp, fun i k => ?_⟩
    simp
    intro _ e
    rw [← e]; exact h
  · rw [if_neg h]
    refine ⟨by simp, fun i k => ?_⟩
    simp
    constructor
    · rintro ⟨rfl, rfl⟩; exact ⟨rfl, rfl, h⟩
    · rintro ⟨rfl, rfl, _⟩; exact ⟨rfl, rfl⟩
set_option maxRecDepth 100000 in
set_option maxHeartbeats 4000000 in
theorem awake16 (w : World) : Calls Try.prog 28 #[] w fun e w' => e = .returned (.bool true) ∧ RowKit.Below w.heap.size w w' := by
  have H1 : Hid (∀ W, RowKit.Below w.heap.size w W → _) := fun W hW => s_new (pg := 2) (gr := 1) (rg := 9) (by decide) (w := w) (W := W) hW
  unfold cfgV at H1
  go_enter Try.func28, Try.ntmps28
  go_wp2_with fail
  refine (H1.out w (Below.refl _ _)).mono ?_
  rintro e w1 ⟨B, rfl, h1, _, _⟩
  have K1 := Lib.hid h1
  clear h1 H1
  go_wp2_with fail
  refine (s_join K1.out (id := 7) (now := 0) (by unfold OkKI; decide) (by decide) (by decide)).mono ?_
  rintro e w2 ⟨rfl, h2, _⟩
  have K2 : Hid (PulS w w2 B 2 1 9 [⟨7, 0, false, false⟩]) := h2
  clear h2 K1
  go_wp2_with fail
  refine (s_reg K2.out (id := 7) (now := 0) (by unfold OkKI; decide) (by decide) (by decide)).mono ?_
  rintro e w3 ⟨rfl, h3, _⟩
  have K3 : Hid (PulS w w3 B 2 1 9 [⟨7, 0, true, false⟩]) := h3
  clear h3 K2
  go_wp2_with fail
  refine (s_same K3.out (now := 1) (by decide) (by decide) (R := []) (due_one 2 1 9 1 ⟨7, 0, true, false⟩) (by decide) none 0 (reads_none _) (fun g o h => by simp at h)).mono ?_
  rintro e w4 ⟨rfl, h4, _⟩
  have K4 : Hid (PulS w w4 B 2 1 9 [⟨7, 0, true, false⟩]) := h4
  clear h4 K3
  go_wp2_with fail
  refine (s_same (K4.out.still ((Fr.refl _ w4).alloc _)) (now := 2) (by decide) (by decide) (R := [(7, 2)]) (due_one 2 1 9 2 ⟨7, 0, true, false⟩) (by decide) _ _ (reads_lit w4 7 2) (fun g o _ e h => by have := K4.out.lt _ h; cases e; omega)).mono ?_
  rintro e w5 ⟨rfl, h5, _⟩
  have K5 : Hid (PulS w w5 B 2 1 9 [⟨7, 0, true, true⟩]) := h5
  clear h5 K4
  go_wp2_with fail
  refine (s_same (K5.out.still ((Fr.refl _ w5).alloc _)) (now := 3) (by decide) (by decide) (R := [(7, 3)]) (due_one 2 1 9 3 ⟨7, 0, true, true⟩) (by decide) _ _ (reads_lit w5 7 3) (fun g o _ e h => by have := K5.out.lt _ h; cases e; omega)).mono ?_
  rintro e w6 ⟨rfl, h6, _⟩
  have K6 := Lib.hid h6.below
  clear h6 K5
  go_wp2_with fail
  go_ret
  exact ⟨rfl, K6.out⟩
end Go.Proofs.Ytbgmjieagnmpkaa
