/- Layer 9: TimerDue: mathematics. -/
import Derived.Test.YtbgmjieagnmpkaaTimII
import Derived.Test.YtbgmjieagnmpkaaTimJ
namespace Go.Proofs.Ytbgmjieagnmpkaa
set_option linter.unusedVariables false
set_option linter.unusedSimpArgs false
open Go Go.RowKit Go.Maps Go.Sort Go.Shelf Go.Lib

/-- the first k numbers, each at its place -/
def idxK (l : List Int) (k : Nat) : List (KeyI × Int) := (List.range k).map fun (i : Nat) => ((i : Int), l.getD i 0)
theorem idxK_zero (l : List Int) : idxK l 0 = [] := rfl
theorem idxK_len (l : List Int) (k : Nat) : (idxK l k).length = k := by simp [idxK]
theorem idxK_succ (l : List Int) (k : Nat) : idxK l (k + 1) = idxK l k ++ [((k : Int), l.getD k 0)] := by simp [idxK, List.range_succ]
theorem idxK_mem {l : List Int} {k : Nat} {p : KeyI × Int} (h : p ∈ idxK l k) : ∃ j : Nat, j < k ∧ p = ((j : Int), l.getD j 0) := by
  unfold idxK at h
  rw [List.mem_map] at h
  obtain ⟨j, h1, h2⟩ := h
  exact ⟨j, by simpa using h1, h2.symm⟩
theorem idxK_set (l : List Int) (k : Nat) : setM (idxK l k) (k : Int) (l.getD k 0) = idxK l (k + 1) := by
  rw [idxK_succ]
  unfold setM
  congr 1
  rw [List.filter_eq_self]
  intro p hp
  obtain ⟨j, h1, rfl⟩ := idxK_mem hp
  have : ¬ (j : Int) = (k : Int) := by omega
  simpa using this
/-- how many of them are due -/
def cntK (l : List Int) (now : Int) (k : Nat) : Nat := ((idxK l k).filter fun p => decide (p.2 ≤ now)).length
theorem cntK_succ (l : List Int) (now : Int) (k : Nat) : cntK l now (k + 1) = cntK l now k + if l.getD k 0 ≤ now then 1 else 0 := by
  unfold cntK
  rw [idxK_succ, List.filter_append, List.length_append]
  obtain ⟨x, hx⟩ : ∃ x, l.getD k 0 = x := ⟨_, rfl⟩
  rw [hx]
  by_cases h : x ≤ now <;> simp [h]
theorem cntK_le (l : List Int) (now : Int) (k : Nat) : cntK l now k ≤ k := by
  have := List.length_filter_le (fun p : KeyI × Int => decide (p.2 ≤ now)) (idxK l k)
  rw [idxK_len] at this
  exact this
theorem len_parts (T : List (KeyI × Int)) (now : Int) : (T.filter fun p => decide (now < p.2)).length + (T.filter fun p => decide (p.2 ≤ now)).length = T.length := by
  induction T with
  | nil => rfl
  | cons a r ih =>
    by_cases h : a.2 ≤ now
    · have h2 : ¬ now < a.2 := by omega
      rw [List.filter_cons_of_neg (by simpa using h2), List.filter_cons_of_pos (by simpa using h)]
      simp only [List.length_cons]; omega
    · have h2 : now < a.2 := by omega
      rw [List.filter_cons_of_pos (by simpa using h2), List.filter_cons_of_neg (by simpa using h)]
      simp only [List.length_cons]; omega
theorem idxK_nodup (l : List Int) (k : Nat) : ((idxK l k).map (·.1)).Nodup := by
  unfold idxK
  rw [List.map_map]
  refine List.pairwise_map.2 ((List.nodup_range).imp ?_)
  intro a b h e
  have e2 : (a : Int) = (b : Int) := e
  exact h (by omega)
theorem readsK_I {base : Nat} {w : World} {A : Option Addr} {n c : Nat} {xs : List KeyI} (h : OwnKI base w (.slice A n c) xs) : 0 < xs.length → ∃ g o, A = some ⟨g, o, none⟩ ∧ g < w.heap.size ∧ ∀ j (h : j < xs.length), w.cell? ⟨g, o + j, none⟩ = some (.int .i64 xs[j]) := fun h0 => by
  have h' := h
  rcases h.2 with ⟨h1, h2⟩ | ⟨g, cap, cur, h1, h3, h4, h5, _, h6, h7⟩
  · omega
  · injection h1 with q1 q2 q3
    subst q1
    refine ⟨g, 0, rfl, blk_lt h4, fun j hj => ?_⟩
    have := h'.cells (g := g) rfl j (kVI xs[j]) (by simp [hj])
    have hadd : (⟨g, 0, none⟩ : Addr).add j = ⟨g, 0 + j, none⟩ := by
      unfold Addr.add
      split
      · simp_all
      · rfl
    rw [hadd] at this
    exact this
/-- numbers as they are read -/
def NumsQ (w : World) (A : Option Addr) (l : List Int) : Prop := (∀ x ∈ l, (Lit.int .i64 x).wf = true) ∧ (0 < l.length → ∃ g o, A = some ⟨g, o, none⟩ ∧ g < w.heap.size ∧ ∀ i (h : i < l.length) j u, ([Value.int .i64 l[i]])[j]? = some u → w.cell? ⟨g, o + i * 1 + j, none⟩ = some u)
theorem numsQ_at {w : World} {A : Option Addr} {l : List Int} (h : NumsQ w A l) (h0 : 0 < l.length) : ∃ (g o : Nat), A = some ⟨g, o, none⟩ ∧ ∀ W, RowKit.Below w.heap.size w W → ∀ k, k < l.length → W.cell? ⟨g, o + k, none⟩ = some (.int .i64 (l.getD k 0)) := by
  obtain ⟨g, o, rfl, hg, ha⟩ := h.2 h0
  refine ⟨g, o, rfl, fun W hb k hk => ?_⟩
  have hak := ha k hk 0 _ rfl
  rw [Nat.mul_one, Nat.add_zero] at hak
  have e : l.getD k 0 = l[k] := by simp [List.getD, hk]
  rw [e]
  exact (World.cell?_of_block (w := w) (w' := W) (a := ⟨g, o + k, none⟩) (hb.block g hg)).trans hak
end Go.Proofs.Ytbgmjieagnmpkaa
