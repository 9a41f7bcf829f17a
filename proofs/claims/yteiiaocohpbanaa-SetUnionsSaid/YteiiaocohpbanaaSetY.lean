/- Layer 10: SetUnions. -/
import Derived.Test.YteiiaocohpbanaaSetX
import Derived.Shelf.RegionOpenPlain
namespace Go.Proofs.Yteiiaocohpbanaa
set_option linter.unusedVariables false
set_option linter.unusedSimpArgs false
open Go Go.RowKit Go.Lib Go.Sort Go.Shelf

def WithF (xs : List Int) (w : World) (e : Ending) (w' : World) : Prop := (∃ F' Y, e = .returned F' ∧ TellsF Try.prog encI w' F' Y xs) ∧ RowKit.Below w.heap.size w w'
theorem without_F {w : World} {F : Value} {Y : Nat → Prop} {xs : List Int} (h : TellsF Try.prog encI w F Y xs) (x : Int) : Calls Try.prog 20 #[F, .int .i64 x] w (WithF (xs.filter fun y => decide (y ≠ x)) w) := by
  obtain ⟨gf, lb, rfl, h1, h2, h3⟩ := h
  obtain ⟨W1, hW1⟩ : ∃ W1, (w.alloc (.cells #[.func (.func gf) #[] lb] 34)).alloc (.cells #[.int .i64 x] 3) = W1 := ⟨_, rfl⟩
  have b1 : RowKit.Below w.heap.size w W1 := by rw [← hW1]; exact ((Below.refl _ w).alloc (Nat.le_refl _) _).alloc (by simp) _
  have k0 : W1.heap[w.heap.size]? = some (.cells #[.func (.func gf) #[] lb] 34 (0, 0)) := by rw [← hW1]; exact blk_alloc (heap_alloc_new w _) _
  have k1 : W1.heap[w.heap.size + 1]? = some (.cells #[.int .i64 x] 3 (0, 0)) := by rw [← hW1]; exact heap_alloc2_new w _ _
  have z1 : W1.heap.size = w.heap.size + 2 := by rw [← hW1]; simp
  have ht : TellsF Try.prog encI W1 (.func (.func gf) #[] lb) Y xs := TellsF.below ⟨gf, lb, rfl, h1, h2, h3⟩ b1
  have H := Lib.hid (And.intro b1 (And.intro k0 (And.intro k1 (And.intro ht (And.intro h2 z1)))))
  have HW := Lib.hid hW1
  clear b1 k0 k1 z1 ht h1 h2 h3 hW1
  go_enter Try.func20, Try.ntmps20
  go_wp2_with fail
  go_ret
  rw [HW.out]
  obtain ⟨b1, k0, k1, ht, h2, z1⟩ := H.out
  refine ⟨⟨_, _, rfl, _, _, rfl, without_seqF k0 k1 ht, ?_, enters_of Try.func29 (by kernel_rfl) rfl⟩, b1⟩
  rintro b (rfl | rfl | hb)
  · omega
  · omega
  · have := h2 b hb; omega
theorem Try.infoP : (Try.prog.info? 24).map (fun i => (i.zero, i.size, i.bytes)) = some (some (.pointer none), 1, 8) := by kernel_rfl
/-- all numbers so far; the sets so far -/
structure UnI (w : World) (va : Value) (al : List Int) (vs : Value) (lss : List (List Int)) (ps : List Value) (W : World) : Prop where
  below : RowKit.Below w.heap.size w W
  all : OwnI w.heap.size W va al
  sets : W.ownsRow w.heap.size 24 1 vs ps.length ps
  apart : ∀ k, va.ownBlock = some k → vs.ownBlock ≠ some k
  len : ps.length = lss.length
  each : ∀ j (h : j < ps.length) (h2 : j < lss.length), ∃ s ob, ps[j] = .pointer (some ⟨s, 0, none⟩) ∧ SetAt w.heap.size W s ob (normI lss[j]) ∧ w.heap.size ≤ s ∧ (∀ k, va.ownBlock = some k → k ≠ s ∧ ob ≠ some k) ∧ ∀ k, vs.ownBlock = some k → k ≠ s ∧ ob ≠ some k
section
variable {w W W' : World} {va vs v' : Value} {al al' : List Int} {lss : List (List Int)} {ps : List Value}
theorem un_start (hb : RowKit.Below w.heap.size w W) : UnI w (.slice none 0 0) [] (.slice none 0 0) [] [] W :=
  ⟨hb, own_nil _ _, World.ownsRow_nil _ _ _ _, (fun k hk => by cases hk), rfl, fun j h => absurd h (Nat.not_lt_zero _)⟩
theorem un_all (h : UnI w va al vs lss ps W) (ho : OwnI w.heap.size W' v' al') (hf : Fr (fun k => va.ownBlock = some k) W W') (ht : ∀ k, v'.ownBlock = some k → va.ownBlock = some k ∨ W.heap.size ≤ k) : UnI w v' al' vs lss ps W' := by
  refine ⟨h.below.trans (hf.below h.below.size fun k _ e => (h.all.lt k e).1), ho, row_same h.sets fun g hg => hf.block g (h.sets.lt g hg).2 fun e => h.apart g e hg, fun k hk => ?_, h.len, fun j hj h2 => ?_⟩
  · rcases ht k hk with e | e
    · exact h.apart k e
    · exact fun e2 => by have := (h.sets.lt k e2).2; omega
  · obtain ⟨s, ob, e1, e2, e3, e4, e5⟩ := h.each j hj h2
    have hb := set_blocks e2
    refine ⟨s, ob, e1, set_fr e2 hf (fun e => (e4 s e).1 rfl) (fun k hk e => (e4 k e).2 hk), e3, fun k hk => ?_, e5⟩
    rcases ht k hk with e | e
    · exact e4 k e
    · have := set_lt e2
      exact ⟨by omega, fun e => by have := (hb k e).2; omega⟩
theorem un_below (h : UnI w va al vs lss ps W) (hb : RowKit.Below W.heap.size W W') : UnI w va al vs lss ps W' :=
  un_all h (own_kept h.all fun g hg => hb.block g (h.all.lt g hg).2) ((Fr.of_below (X := fun _ => False) hb).mono fun _ _ e => e.elim) fun k hk => .inl hk
theorem un_set (h : UnI w va al vs lss ps W) {s : Nat} {ob : Option Nat} {ls : List Int} (hs : SetAt W.heap.size W' s ob (normI ls)) (hn : W.heap.size ≤ s) (hb : RowKit.Below W.heap.size W W') {W2 : World}
    (ho : W2.ownsRow w.heap.size 24 1 v' (ps.length + 1) (ps ++ #[Value.pointer (some ⟨s, 0, none⟩)].toList)) (hf : Fr (fun k => vs.ownBlock = some k) W' W2) (ht : ∀ k, v'.ownBlock = some k → vs.ownBlock = some k ∨ W'.heap.size ≤ k) : UnI w va al v' (lss ++ [ls]) (ps ++ [.pointer (some ⟨s, 0, none⟩)]) W2 := by
  have h' := un_below h hb
  have hsb := set_blocks hs
  have hsl := set_lt hs
  have hvs : ∀ k, vs.ownBlock = some k → k < W.heap.size := fun k hk => (h.sets.lt k hk).2
  have hva : ∀ k, va.ownBlock = some k → k < W.heap.size := fun k hk => (h.all.lt k hk).2
  refine ⟨h'.below.trans (hf.below h'.below.size fun k _ e => (h'.sets.lt k e).1), own_kept h'.all fun g hg => hf.block g (h'.all.lt g hg).2 fun e => h.apart g hg e, by rw [List.length_append]; exact ho, fun k hk e => ?_, by simp [h.len], fun j hj h2 => ?_⟩
  · rcases ht k e with e2 | e2
    · exact h.apart k hk e2
    · have := (h'.all.lt k hk).2; omega
  · have hl := h.len
    by_cases c : j < ps.length
    · obtain ⟨s2, ob2, e1, e2, e3, e4, e5⟩ := h'.each j c (by omega)
      have hb2 := set_blocks e2
      refine ⟨s2, ob2, by rw [List.getElem_append_left c]; exact e1, by rw [List.getElem_append_left (by omega)]; exact set_fr e2 hf (fun e => (e5 s2 e).1 rfl) (fun k hk e => (e5 k e).2 hk), e3, e4, fun k hk => ?_⟩
      rcases ht k hk with e | e
      · exact e5 k e
      · have := set_lt e2
        exact ⟨by omega, fun e => by have := (hb2 k e).2; omega⟩
    · have hj2 : j = ps.length := by simp at hj; omega
      subst hj2
      refine ⟨s, ob, by simp, ?_, Nat.le_trans h.below.size hn, fun k hk => ⟨by have := hva k hk; omega, fun e => by have := (hsb k e).1; have := hva k hk; omega⟩, fun k hk => ?_⟩
      · have : (lss ++ [ls])[ps.length]'h2 = ls := by simp [hl]
        rw [this]
        exact set_fr (set_base hs h.below.size) hf (fun e => by have := hvs _ e; omega) fun k hk e => by have := (hsb k hk).1; have := hvs _ e; omega
      · rcases ht k hk with e | e
        · exact ⟨by have := hvs k e; omega, fun e2 => by have := (hsb k e2).1; have := hvs k e; omega⟩
        · exact ⟨by omega, fun e2 => by have := (hsb k e2).2; omega⟩
theorem un_ptr (h : UnI w va al vs lss ps W) {j : Nat} (hj : j < ps.length) (h2 : j < lss.length) : PtrAt W ps[j] (normI lss[j]) := by
  obtain ⟨s, ob, e1, e2, _⟩ := h.each j hj h2
  exact .inr ⟨s, ob, _, e1, e2⟩
theorem un_cell (h : UnI w va al vs lss ps W) (hp : 0 < ps.length) : ∃ g c, vs = .slice (some ⟨g, 0, none⟩) ps.length c ∧ g < W.heap.size ∧ ∀ j (hj : j < ps.length), W.cell? ⟨g, 0 + j, none⟩ = some ps[j] := by
  rcases h.sets.2 with ⟨e1, e2⟩ | ⟨g, cap, cur, rfl, e3, e4, e5⟩
  · omega
  · refine ⟨g, cap, rfl, blk_lt e4, fun j hj => ?_⟩
    have := h.sets.cells (g := g) rfl j ps[j] (List.getElem?_eq_getElem hj)
    rw [add_at] at this
    exact this
theorem un_row (h : UnI w va al vs lss ps W) {A : Option Addr} {n c : Nat} (hv : vs = .slice A n c) : 0 < (lss.map normI).length → ∃ g o, A = some ⟨g, o, none⟩ ∧ g < W.heap.size ∧ ∀ j (hj : j < (lss.map normI).length), ∃ p, W.cell? ⟨g, o + j, none⟩ = some p ∧ PtrAt W p (lss.map normI)[j] := fun h0 => by
  rw [List.length_map] at h0
  have hl := h.len
  obtain ⟨g, c2, e1, e2, e3⟩ := un_cell h (by omega)
  rw [hv] at e1; cases e1
  refine ⟨g, 0, rfl, e2, fun j hj => ?_⟩
  rw [List.length_map] at hj
  exact ⟨_, e3 j (by omega), by rw [List.getElem_map]; exact un_ptr h (by omega) hj⟩
end
theorem un_norm (R : List (List Int)) : normI (R.map normI).flatten = normI R.flatten := by
  refine up_ext (normI_ok _).1 (normI_ok _).1 fun x => ?_
  rw [(normI_ok _).2, (normI_ok _).2]
  simp only [List.mem_flatten, List.mem_map]
  constructor
  · rintro ⟨l, ⟨a, ha, rfl⟩, hx⟩; exact ⟨a, ha, ((normI_ok a).2 x).1 hx⟩
  · rintro ⟨a, ha, hx⟩; exact ⟨normI a, ⟨a, ha, rfl⟩, ((normI_ok a).2 x).2 hx⟩
theorem meet_norm (a b : List Int) : meetI (normI a) (normI b) = a.any fun x => b.contains x := by
  unfold meetI
  rw [Bool.eq_iff_iff, List.any_eq_true, List.any_eq_true]
  constructor
  · rintro ⟨x, h1, h2⟩; exact ⟨x, ((normI_ok a).2 x).1 h1, by simpa [(normI_ok b).2] using h2⟩
  · rintro ⟨x, h1, h2⟩; exact ⟨x, ((normI_ok a).2 x).2 h1, by simpa [(normI_ok b).2] using h2⟩
theorem normI_flat_len (R : List (List Int)) (n : Nat) (h : R.flatten.length ≤ n) : (R.map normI).flatten.length ≤ n := by
  refine Nat.le_trans ?_ h
  induction R with
  | nil => simp
  | cons a R ih =>
    have := normI_len a
    rw [List.map_cons, List.flatten_cons, List.flatten_cons, List.length_append, List.length_append]
    have := ih (by rw [List.flatten_cons, List.length_append] at h; omega)
    omega
/-- the rows, as they lie -/
def RowsI (w : World) (A : Option Addr) (l : List zrowT) : Prop := (∀ y ∈ l, zrowG w y) ∧ (0 < l.length → ∃ g o, A = some ⟨g, o, none⟩ ∧ g < w.heap.size ∧ ∀ i (h : i < l.length) j u, (rowL l[i])[j]? = some u → w.cell? ⟨g, o + i * 1 + j, none⟩ = some u)
theorem rows_at {w : World} {A : Option Addr} {l : List zrowT} (h : RowsI w A l) {k : Nat} (hk : k < l.length) :
    ∃ (g o : Nat) (C : Option Addr) (cc : Nat), A = some ⟨g, o, none⟩ ∧ ReadsI w C l[k].2.1 ∧ l[k].2.1.length ≤ cc ∧ cc ≤ maxLen ∧ (C = none → l[k].2.1.length = 0 ∧ cc = 0) ∧ ∀ W, RowKit.Below w.heap.size w W → W.cell? ⟨g, o + k, none⟩ = some (.slice C l[k].2.1.length cc) := by
  obtain ⟨hz, ha⟩ := h
  obtain ⟨g, o, rfl, hg, ha⟩ := ha (by omega)
  have hzk := hz l[k] (List.getElem_mem hk)
  have hak := ha k hk 0 _ rfl
  rw [Nat.mul_one, Nat.add_zero] at hak
  exact ⟨g, o, _, _, rfl, reads_of hzk.2.2.2.1, hzk.1, hzk.2.1, hzk.2.2.2.2, fun W hb => (World.cell?_of_block (w := w) (w' := W) (a := ⟨g, o + k, none⟩) (hb.block g hg)).trans hak⟩
/-- the numbers of the first k rows -/
def rowsK (l : List zrowT) (k : Nat) : List (List Int) := (l.take k).map fun x => x.2.1
theorem rowsK_succ {l : List zrowT} {k : Nat} (hk : k < l.length) : rowsK l (k + 1) = rowsK l k ++ [l[k].2.1] := by
  unfold rowsK; rw [List.take_succ_eq_append_getElem hk, List.map_append]; rfl
theorem rowsK_len {l : List zrowT} {k : Nat} (hk : k ≤ l.length) : (rowsK l k).length = k := by unfold rowsK; rw [List.length_map, List.length_take]; omega
theorem rowsK_get {l : List zrowT} {k j : Nat} (hj : j < (rowsK l k).length) (h2 : j < l.length) : (rowsK l k)[j] = l[j].2.1 := by
  unfold rowsK; simp
end Go.Proofs.Yteiiaocohpbanaa
