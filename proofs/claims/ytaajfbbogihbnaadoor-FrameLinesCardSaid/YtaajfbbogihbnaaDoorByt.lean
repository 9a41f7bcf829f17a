/- Rows of bytes: of the call's own, and as they lie anywhere; append of the one onto the other. -/
import Derived.Test.YtaajfbbogihbnaaDoorAppU
import Derived.Test.YtaajfbbogihbnaaDoorProg
import Derived.Laws.IdiomStrings
namespace Go.Proofs.YtaajfbbogihbnaaDoor
set_option linter.unusedVariables false
set_option linter.unusedSimpArgs false
open Go Go.RowKit

theorem add8 (g o n : Nat) : (⟨g, o, none⟩ : Addr).add n = ⟨g, o + n, none⟩ := by
  by_cases h : n = 0
  · subst h; simp [Addr.add]
  · simp [Addr.add, h]
/-- a byte in a cell -/
def enc8 (b : UInt8) : Value := .int .u8 b.toNat
/-- slice v holds these bytes, in a row of its own -/
def Own8 (base : Nat) (W : World) (v : Value) (xs : List UInt8) : Prop := W.ownsRow base 5 1 v xs.length (xs.map enc8)
theorem Tryd.info8 : (Tryd.prog.info? 5).map (fun i => (i.zero, i.size, i.bytes)) = some (some (.int .u8 0), 1, 1) := by kernel_rfl
theorem own8_kept {base : Nat} {w W : World} {v : Value} {xs : List UInt8} (h : Own8 base w v xs) (hs : ∀ g, v.ownBlock = some g → W.heap[g]? = w.heap[g]?) : Own8 base W v xs := row_same h hs
theorem own8_nil (base : Nat) (w : World) : Own8 base w (.slice none 0 0) [] := World.ownsRow_nil _ _ _ _
theorem own8_base {W : World} {base base' : Nat} {v : Value} {xs : List UInt8} (h : Own8 base W v xs) (hb : base' ≤ base) : Own8 base' W v xs := by
  obtain ⟨h1, h2⟩ := h
  refine ⟨h1, ?_⟩
  rcases h2 with h2 | ⟨g, cap, cur, h3, h4, h5⟩
  · exact .inl h2
  · exact .inr ⟨g, cap, cur, h3, by omega, h5⟩
theorem own8_app {base : Nat} {w : World} {v : Value} {xs ys : List UInt8} (h : w.ownsRow base 5 1 v (xs.length + ys.length) (xs.map enc8 ++ ys.map enc8)) : Own8 base w v (xs ++ ys) := by
  unfold Own8; rw [List.length_append, List.map_append]; exact h
/-- its text -/
theorem conv_own8 {W : World} {base : Nat} {v : Value} {xs : List UInt8} (h : Own8 base W v xs) : (convert 26 9 v).run Tryd.prog W = .ok (.string (bs xs)) W := by
  have h' := h
  rcases h.2 with ⟨rfl, h0⟩ | ⟨g, cap, cur, rfl, _⟩
  · obtain rfl : xs = [] := List.length_eq_zero_iff.1 h0
    exact run_convert_bytes_nil W 26 5 Tryd.underlying26 Tryd.underlying5 0 0 9 Tryd.underlying9
  · exact run_convert_bytes_back W 26 9 5 ⟨g, 0, none⟩ cap xs Tryd.underlying26 Tryd.underlying5 Tryd.underlying9 fun j hj => h'.cells (g := g) rfl j _ (by simp [hj, enc8])
/-- what an own slice looks like -/
theorem own8_form {base : Nat} {W : World} {v : Value} {xs : List UInt8} (h : Own8 base W v xs) : ∃ A c, v = .slice A xs.length c ∧ xs.length ≤ c ∧ c ≤ maxLen ∧ (∀ k, v.ownBlock = some k → base ≤ k ∧ k < W.heap.size) := by
  rcases h.2 with ⟨rfl, h0⟩ | ⟨g, cap, cur, rfl, hb, hg, hn, hm, _⟩
  · obtain rfl : xs = [] := List.length_eq_zero_iff.1 h0
    exact ⟨none, 0, rfl, Nat.le_refl _, Nat.zero_le _, fun k hk => by cases hk⟩
  · exact ⟨_, cap, rfl, hn, hm, fun k hk => by cases hk; exact ⟨hb, (Array.getElem?_eq_some_iff.1 hg).1⟩⟩
/-- none of it -/
theorem own8_clear {base : Nat} {W : World} {A : Option Addr} {n c : Nat} {xs : List UInt8} (h : Own8 base W (.slice A n c) xs) : Own8 base W (.slice A 0 c) [] := by
  rcases h.2 with ⟨e, h0⟩ | ⟨g, cap, cur, e, hb, hg, hn, hm, hcs, ht⟩
  · cases e; exact own8_nil _ _
  · cases e; exact ⟨rfl, .inr ⟨g, c, cur, rfl, hb, hg, Nat.zero_le _, hm, hcs, by simp⟩⟩

/-- bytes as they lie at an address -/
def Lie8 (w : World) (A : Option Addr) (l : List UInt8) : Prop := 0 < l.length → ∃ g o, A = some ⟨g, o, none⟩ ∧ g < w.heap.size ∧ ∀ j (h : j < l.length), w.cell? ⟨g, o + j, none⟩ = some (enc8 l[j])
/-- slice v holds these bytes, wherever -/
def At8 (w : World) (v : Value) (l : List UInt8) : Prop := ∃ A c, v = .slice A l.length c ∧ l.length ≤ c ∧ c ≤ maxLen ∧ (A = none → c = 0) ∧ Lie8 w A l
theorem lie8_kept {w W : World} {X : Nat → Prop} {A : Option Addr} {l : List UInt8} (h : Lie8 w A l) (hf : Fr X w W) (hx : ∀ a, A = some a → 0 < l.length → ¬ X a.block) : Lie8 W A l := fun h0 => by
  obtain ⟨g, o, rfl, hg, hc⟩ := h h0
  exact ⟨g, o, rfl, Nat.lt_of_lt_of_le hg hf.size, fun j hj => (hf.cell (p := ⟨g, o + j, none⟩) hg (hx ⟨g, o, none⟩ rfl h0)).trans (hc j hj)⟩
theorem at8_kept {w W : World} {X : Nat → Prop} {v : Value} {l : List UInt8} (h : At8 w v l) (hf : Fr X w W) (hx : ∀ k, 0 < l.length → v.ownBlock = some k → ¬ X k) : At8 W v l := by
  obtain ⟨A, c, rfl, h1, h2, h3, h4⟩ := h
  refine ⟨A, c, rfl, h1, h2, h3, ?_⟩
  intro h0
  obtain ⟨g, o, rfl, hg, hc⟩ := h4 h0
  exact ⟨g, o, rfl, Nat.lt_of_lt_of_le hg hf.size, fun j hj => (hf.cell (p := ⟨g, o + j, none⟩) hg (hx g h0 rfl)).trans (hc j hj)⟩
theorem cell_same {w W : World} {p : Addr} (h : W.heap[p.block]? = w.heap[p.block]?) : W.cell? p = w.cell? p := World.cell?_of_block (w := w) h
theorem lt_same {w W : World} {g : Nat} (h : W.heap[g]? = w.heap[g]?) (hg : g < w.heap.size) : g < W.heap.size := by
  rw [Array.getElem?_eq_getElem hg] at h
  exact (Array.getElem?_eq_some_iff.1 h).1
theorem at8_same {w W : World} {v : Value} {l : List UInt8} (h : At8 w v l) (hs : ∀ k, 0 < l.length → v.ownBlock = some k → W.heap[k]? = w.heap[k]?) : At8 W v l := by
  obtain ⟨A, c, rfl, h1, h2, h3, h4⟩ := h
  refine ⟨A, c, rfl, h1, h2, h3, ?_⟩
  intro h0
  obtain ⟨g, o, rfl, hg, hc⟩ := h4 h0
  exact ⟨g, o, rfl, lt_same (hs g h0 rfl) hg, fun j hj => (cell_same (p := ⟨g, o + j, none⟩) (hs g h0 rfl)).trans (hc j hj)⟩
theorem sliced_block {A : Option Addr} {lo n c hi : Nat} {k : Nat} (h : (sliced A lo hi c 1).ownBlock = some k) : (Value.slice A n c).ownBlock = some k := by
  cases A with
  | none => simp only [sliced] at h; split at h <;> cases h
  | some a =>
    obtain ⟨b, o, s⟩ := a
    simp only [sliced] at h
    split at h
    · exact h
    · have e : ((⟨b, o, s⟩ : Addr).add (lo * 1)).block = b := by unfold Addr.add; split <;> first | rfl | (cases s <;> rfl)
      simp only [Option.map_some, Value.ownBlock] at h ⊢
      rw [e] at h
      exact h
theorem at8_take {w : World} {A : Option Addr} {c : Nat} {l : List UInt8} (h1 : l.length ≤ c) (h2 : c ≤ maxLen) (h3 : A = none → c = 0) (h4 : Lie8 w A l) (n : Nat) (hn : n ≤ l.length) : At8 w (sliced A 0 n c 1) (l.take n) := by
  have e : (l.take n).length = n := by simp [Nat.min_eq_left hn]
  refine ⟨A, c, ?_, by omega, h2, h3, fun h0 => ?_⟩
  · rw [e]
    simp only [sliced, Nat.sub_zero, Nat.zero_mul]
    congr 1
    split
    · rfl
    · cases A with
      | none => rfl
      | some a => obtain ⟨b, o, s⟩ := a; cases s <;> simp [Addr.add]
  · obtain ⟨g, o, rfl, hg, hc⟩ := h4 (by omega)
    exact ⟨g, o, rfl, hg, fun j hj => by rw [hc j (by omega)]; simp⟩
theorem at8_drop {w : World} {A : Option Addr} {c : Nat} {l : List UInt8} (h1 : l.length ≤ c) (h2 : c ≤ maxLen) (h3 : A = none → c = 0) (h4 : Lie8 w A l) (n : Nat) (hn : n ≤ l.length) : At8 w (sliced A n l.length c 1) (l.drop n) := by
  have e : (l.drop n).length = l.length - n := by simp
  refine ⟨if c = n then A else A.map (·.add (n * 1)), c - n, ?_, by omega, by omega, fun h0 => ?_, fun h0 => ?_⟩
  · rw [e]; rfl
  · split at h0
    · have := h3 h0; omega
    · cases A with
      | none => have := h3 rfl; omega
      | some a => cases h0
  · obtain ⟨g, o, rfl, hg, hc⟩ := h4 (by omega)
    rw [if_neg (by omega)]
    refine ⟨g, o + n, by simp [Addr.add], hg, fun j hj => ?_⟩
    have := hc (n + j) (by omega)
    rw [show o + n + j = o + (n + j) by omega, this]
    simp
theorem at8_lt {w : World} {v : Value} {l : List UInt8} (h : At8 w v l) (h0 : 0 < l.length) {k : Nat} (hk : v.ownBlock = some k) : k < w.heap.size := by
  obtain ⟨A, c, rfl, _, _, _, h4⟩ := h
  obtain ⟨g, o, rfl, hg, _⟩ := h4 h0
  cases hk; exact hg
theorem at8_block {w : World} {v : Value} {l : List UInt8} (h : At8 w v l) : ∃ A c, v = .slice A l.length c ∧ Lie8 w A l := by
  obtain ⟨A, c, rfl, _, _, _, h⟩ := h; exact ⟨A, c, rfl, h⟩
theorem at8_pre {w : World} {A : Option Addr} {c : Nat} {a b : List UInt8} (h1 : (a ++ b).length ≤ c) (h2 : c ≤ maxLen) (h3 : A = none → c = 0) (h4 : Lie8 w A (a ++ b)) : At8 w (.slice A a.length c) a := by
  rw [List.length_append] at h1
  refine ⟨A, c, rfl, by omega, h2, h3, fun h0 => ?_⟩
  obtain ⟨g, o, rfl, hg, hc⟩ := h4 (by rw [List.length_append]; omega)
  refine ⟨g, o, rfl, hg, fun j hj => ?_⟩
  rw [hc j (by rw [List.length_append]; omega), List.getElem_append_left hj]
/-- what a slice without its first n bytes is, as one value -/
theorem run_drop8 {A : Option Addr} {c : Nat} {l : List UInt8} (n : Nat) (hn : n ≤ l.length) (hl : l.length ≤ 1000000000) : ∃ A2, (∀ W, (Instr.slice 26 (.slice A l.length c) (some (.int .i64 (n : Int))) none none).run Tryd.prog W = .ok (.slice A2 (l.length - n) (c - n)) W) ∧ Value.slice A2 (l.length - n) (c - n) = sliced A n l.length c 1 := by
  refine ⟨if c = n then A else A.map (·.add (n * 1)), fun W => ?_, rfl⟩
  have hu : Tryd.prog.underlying 26 = some (.slice (Tryd.prog.elem 26)) := by kernel_rfl
  rw [run_slice_l W 26 _ _ _ hu _ _ (by omega) (by omega)]
  have hs : (sizeOf (Tryd.prog.elem 26)).run Tryd.prog W = .ok 1 W := by kernel_rfl
  rw [hs]
  simp [Result.andThen, sliced]
/-- an own one lies somewhere -/
theorem own8_at {base : Nat} {W : World} {v : Value} {xs : List UInt8} (h : Own8 base W v xs) : At8 W v xs := by
  have h' := h
  rcases h.2 with ⟨rfl, h0⟩ | ⟨g, cap, cur, rfl, hb, hg, hn, hm, _⟩
  · obtain rfl : xs = [] := List.length_eq_zero_iff.1 h0
    exact ⟨none, 0, rfl, Nat.le_refl _, Nat.zero_le _, fun _ => rfl, fun h => absurd h (by simp)⟩
  · refine ⟨_, cap, rfl, hn, hm, (fun e => by cases e), fun _ => ⟨g, 0, rfl, (Array.getElem?_eq_some_iff.1 hg).1, fun j hj => ?_⟩⟩
    have := h'.cells (g := g) rfl j (enc8 xs[j]) (by simp [hj])
    rwa [add8] at this
/-- as what is appended -/
theorem src8 {w : World} {v : Value} {l : List UInt8} (h : At8 w v l) : Src Tryd.prog 1 26 v l.length (l.map enc8) w := by
  obtain ⟨A, c, rfl, h1, h2, h3, h4⟩ := h
  cases A with
  | none =>
    obtain rfl : c = 0 := h3 rfl
    obtain rfl : l = [] := List.length_eq_zero_iff.1 (by omega)
    exact Src.ofNil w Tryd.underlying26 0
  | some a =>
    refine Src.ofSlice w Tryd.underlying26 a _ c _ (by simp) (fun j u hu => ?_) (fun u hu => ?_)
    · have hj : j < l.length := by have := (List.getElem?_eq_some_iff.1 hu).1; simpa using this
      obtain ⟨g, o, e, hg, hc⟩ := h4 (by omega)
      cases e
      rw [add8, hc j hj]
      simpa [hj] using hu
    · obtain ⟨b, _, rfl⟩ := List.mem_map.1 hu; rfl
end Go.Proofs.YtaajfbbogihbnaaDoor
