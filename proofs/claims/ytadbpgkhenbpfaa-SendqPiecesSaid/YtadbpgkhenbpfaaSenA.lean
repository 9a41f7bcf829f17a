/- Layer 8: rows of bytes of the call's own; slices.Delete; a queue as it lies; New, Len, Over, Sent. -/
import Derived.Test.YtadbpgkhenbpfaaAppU
import Derived.Test.YtadbpgkhenbpfaaValidE
import Derived.Test.YtadbpgkhenbpfaaShelf
import Derived.Deep.QuietTactic
import Derived.BigQuiet
import Derived.Laws.IdiomStrings
import Derived.Test.YtadbpgkhenbpfaaArgs
namespace Go.Proofs.Ytadbpgkhenbpfaa
set_option linter.unusedVariables false
set_option linter.unusedSimpArgs false
open Go Go.RowKit Go.Lib Go.Sort Go.Shelf

/-- a byte in a cell -/
def encB (b : UInt8) : Value := .int .u8 b.toNat
/-- slice v holds these bytes, in a row of its own -/
def OwnB (base : Nat) (W : World) (v : Value) (xs : List UInt8) : Prop := W.ownsRow base 5 1 v xs.length (xs.map encB)
theorem Try.infoB : (Try.prog.info? 5).map (fun i => (i.zero, i.size, i.bytes)) = some (some (.int .u8 0), 1, 1) := by kernel_rfl
theorem ownB_kept {base : Nat} {w W : World} {v : Value} {xs : List UInt8} (h : OwnB base w v xs) (hs : ∀ g, v.ownBlock = some g → W.heap[g]? = w.heap[g]?) : OwnB base W v xs := row_same h hs
theorem ownB_nil (base : Nat) (w : World) : OwnB base w (.slice none 0 0) [] := World.ownsRow_nil _ _ _ _
theorem ownB_base {W : World} {base base' : Nat} {v : Value} {xs : List UInt8} (h : OwnB base W v xs) (hb : base' ≤ base) : OwnB base' W v xs := by
  obtain ⟨h1, h2⟩ := h
  refine ⟨h1, ?_⟩
  rcases h2 with h2 | ⟨g, cap, cur, h3, h4, h5⟩
  · exact .inl h2
  · exact .inr ⟨g, cap, cur, h3, by omega, h5⟩
theorem ownB_app {base : Nat} {w : World} {v : Value} {xs ys : List UInt8} (h : w.ownsRow base 5 1 v (xs.length + ys.length) (xs.map encB ++ ys.map encB)) : OwnB base w v (xs ++ ys) := by
  unfold OwnB; rw [List.length_append, List.map_append]; exact h
theorem ownB_cell {base : Nat} {W : World} {g n c : Nat} {xs : List UInt8} (h : OwnB base W (.slice (some ⟨g, 0, none⟩) n c) xs) {j : Nat} (hj : j < xs.length) : W.cell? ⟨g, j, none⟩ = some (encB xs[j]) := by
  have := h.cells (g := g) rfl j (encB xs[j]) (by simp [hj])
  rwa [add_at, Nat.zero_add] at this
/-- its text -/
theorem conv_ownB {W : World} {base : Nat} {v : Value} {xs : List UInt8} (h : OwnB base W v xs) : (convert 34 9 v).run Try.prog W = .ok (.string (bs xs)) W := by
  have h' := h
  rcases h.2 with ⟨rfl, h0⟩ | ⟨g, cap, cur, rfl, _⟩
  · obtain rfl : xs = [] := List.length_eq_zero_iff.1 h0
    exact run_convert_bytes_nil W 34 5 Try.underlying34 Try.underlying5 0 0 9 Try.underlying9
  · exact run_convert_bytes_back W 34 9 5 ⟨g, 0, none⟩ cap xs Try.underlying34 Try.underlying5 Try.underlying9 fun j hj => h'.cells (g := g) rfl j _ (by simp [hj, encB])
theorem holdsB {w : World} {g : Nat} {cur : Array Value} {e : TypeId} {ss : List UInt8} (hb : w.heap[g]? = some (.cells cur e (0, 0))) (ht : cur.toList.take ss.length = ss.map encB) : Holds encB w g 0 ss.toArray := by
  intro j hj
  have hj' : j < ss.length := by simpa using hj
  refine ⟨?_, frozen_of_row w g _ cur e hb⟩
  have h1 : (cur.toList.take ss.length)[j]? = (ss.map encB)[j]? := by rw [ht]
  rw [List.getElem?_take_of_lt hj', Array.getElem?_toList] at h1
  rw [Nat.zero_add, cell_of_row w g j cur e _ hb, h1]
  simp [hj']
theorem heap_rowB {w : World} {g n : Nat} {cur : Array Value} {e : TypeId} (d : Array UInt8) (hb : w.heap[g]? = some (.cells cur e (0, 0))) :
    (putRow encB (Sort.ahead w n) g 0 d).heap[g]? = some (.cells (putCells encB 0 d cur) e (0, 0)) := by
  have hg : g < w.heap.size := (Array.getElem?_eq_some_iff.1 hb).1
  simp [putRow, mapBlock, Sort.ahead, Array.getElem?_modify, hb, onCells]
theorem grown_rowB {w : World} {g n : Nat} (d : Array UInt8) : w.grownBy (putRow encB (Sort.ahead w n) g 0 d) (some g) := by
  refine ⟨rfl, rfl, rfl, by simp [putRow, mapBlock, Sort.ahead], fun k hk hne => ?_⟩
  have : g ≠ k := fun e => hne (by rw [e])
  simp [putRow, mapBlock, Sort.ahead, Array.getElem?_modify, this]
theorem take_rowB (cur : Array Value) (ts : List UInt8) (k : Nat) (hk : k ≤ ts.length) (h : ts.length ≤ cur.size) : (putCells encB 0 ts.toArray cur).toList.take k = (ts.take k).map encB := by
  apply List.ext_getElem?
  intro j
  by_cases hj : j < k
  · rw [List.getElem?_take_of_lt hj, Array.getElem?_toList, List.getElem?_map, List.getElem?_take_of_lt hj]
    have hjc : j < cur.size := by omega
    simp [putCells, hjc, show j < ts.length by omega]
  · rw [List.getElem?_take_eq_none (by omega), List.getElem?_eq_none (by simp; omega)]
/-- the block of a slice -/
def vB (v : Value) : Nat → Prop := fun k => v.ownBlock = some k
theorem deleteB {base : Nat} {w : World} {v : Value} {xs : List UInt8} (h : OwnB base w v xs) (hl : xs.length ≤ 1000000) (i : Nat) (hi : i ≤ xs.length) (h0 : 0 < xs.length) :
    Calls Try.prog 21 #[v, .int .i64 0, .int .i64 i] w fun e w' => (∃ v', e = .returned v' ∧ OwnB base w' v' (xs.drop i) ∧ v'.ownBlock = v.ownBlock) ∧ Fr (vB v) w w' := by
  rcases h.2 with ⟨rfl, h1⟩ | ⟨g, cap, cur, rfl, hb, hg, hn, hm, hcs, ht⟩
  · omega
  · rw [Nat.mul_one] at ht hcs
    obtain ⟨i0, hi0, hz0, hz1, hz2⟩ := info_parts Try.infoB
    have hq := AnyE.slices_Delete Try.delB encB (fun _ => rfl) 0 (fun w => by kernel_rfl) i0 hi0 hz1 g 0 cap 0 i xs.toArray w (holdsB hg ht) (by simpa using hn) (by unfold maxLen at hm; omega) (by omega) (by simpa using hi)
    rw [List.size_toArray] at hq
    refine hq.mono ?_
    rintro e w' ⟨rfl, q, rfl⟩
    have hlen : (xs.drop i ++ List.replicate i 0).length = xs.length := by simp; omega
    have he : (xs.toArray.toList.take 0 ++ xs.toArray.toList.drop i ++ List.replicate (i - 0) (0 : UInt8)).toArray = (xs.drop i ++ List.replicate i 0).toArray := by simp
    rw [he]
    refine ⟨⟨_, rfl, ⟨by simp, .inr ⟨g, cap, _, ?_, hb, heap_rowB _ hg, by simp; omega, hm, by simp [putCells, hcs], ?_⟩⟩, rfl⟩, ((Fr.refl _ w).grown (grown_rowB _) fun k hk => .inr (by cases hk; rfl))⟩
    · simp
    · rw [Nat.mul_one, take_rowB _ _ _ (by simp) (by omega), List.take_left]
/-- what a queue keeps -/
structure QS where
  most : Int
  ws : List UInt8
  sent : Int
  parted : Bool
  over : Bool
/-- a queue as it lies -/
def QAt (base : Nat) (W : World) (q : Nat) (ob : Option Nat) (s : QS) : Prop :=
  ∃ v, W.heap[q]? = some (.cells #[.int .i64 s.most, v, .int .i64 s.sent, .bool s.parted, .bool s.over] 53 (0, 0)) ∧ v.ownBlock = ob ∧ OwnB base W v s.ws ∧ ob ≠ some q
theorem q_fr {base : Nat} {X : Nat → Prop} {W W' : World} {q : Nat} {ob : Option Nat} {s : QS} (h : QAt base W q ob s) (hf : Fr X W W') (hq : ¬ X q) (ho : ∀ k, ob = some k → ¬ X k) : QAt base W' q ob s := by
  obtain ⟨v, h1, rfl, h3, h4⟩ := h
  exact ⟨v, hf.blk h1 hq, rfl, ownB_kept h3 fun g hg => hf.block g (h3.lt g hg).2 (ho g hg), h4⟩
theorem q_below {base : Nat} {W W' : World} {q : Nat} {ob : Option Nat} {s : QS} (h : QAt base W q ob s) (hb : RowKit.Below W.heap.size W W') : QAt base W' q ob s :=
  q_fr h (Fr.of_below (X := fun _ => False) hb) (fun e => e) fun _ _ e => e
theorem q_base {base base' : Nat} {W : World} {q : Nat} {ob : Option Nat} {s : QS} (h : QAt base W q ob s) (hb : base' ≤ base) : QAt base' W q ob s := by
  obtain ⟨v, h1, h2, h3, h4⟩ := h
  exact ⟨v, h1, h2, ownB_base h3 hb, h4⟩
theorem q_lt {base : Nat} {W : World} {q : Nat} {ob : Option Nat} {s : QS} (h : QAt base W q ob s) : q < W.heap.size := by
  obtain ⟨v, h1, _⟩ := h
  exact blk_lt h1
theorem q_blocks {base : Nat} {W : World} {q : Nat} {ob : Option Nat} {s : QS} (h : QAt base W q ob s) : ∀ k, ob = some k → base ≤ k ∧ k < W.heap.size := by
  obtain ⟨v, _, rfl, h3, _⟩ := h
  exact fun k hk => h3.lt k hk

/-- results in their slots -/
def NewQ (most : Int) (w : World) (e : Ending) (w' : World) : Prop := e = .returned (.tuple #[.pointer (some ⟨w.heap.size, 0, none⟩), .int .i64 0]) ∧ QAt w.heap.size w' w.heap.size none ⟨most, [], 0, false, false⟩ ∧ RowKit.Below w.heap.size w w'
theorem q_new (most : Int) (h1 : 512 ≤ most) (h2 : most ≤ 65536) (w : World) : Calls Try.prog 8 #[.int .i64 most] w (NewQ most w) := by
  have p1 : ¬ (most < 512) := by omega
  have p2 : ¬ (65536 < most) := by omega
  go_enter Try.func8, Try.ntmps8
  go_wp2
  go_ret2
  exact ⟨rfl, ⟨_, heap_alloc_new w _, rfl, ownB_nil _ _, by simp⟩, (Below.refl _ w).alloc (Nat.le_refl _) _⟩
theorem q_new_no (most : Int) (h : most < 512 ∨ 65536 < most) (w : World) : Calls Try.prog 8 #[.int .i64 most] w fun e w' => e = .returned (.tuple #[.pointer none, .int .i64 2]) ∧ w' = w := by
  by_cases p1 : most < 512
  · go_enter Try.func8, Try.ntmps8
    go_wp2
    go_ret2
    exact ⟨rfl, rfl⟩
  · have p2 : 65536 < most := by omega
    clear h
    go_enter Try.func8, Try.ntmps8
    go_wp2
    go_ret2
    exact ⟨rfl, rfl⟩
theorem q_len {base : Nat} {W : World} {q : Nat} {ob : Option Nat} {s : QS} (h : QAt base W q ob s) : Calls Try.prog 14 #[.pointer (some ⟨q, 0, none⟩)] W fun e w' => e = .returned (.int .i64 s.ws.length) ∧ w' = W := by
  obtain ⟨v, h1, rfl, h3, h4⟩ := h
  obtain ⟨A, c, rfl⟩ := row_slice h3
  have c1 := blk_cell h1 1
  clear h1 h3 h4
  go_enter Try.func14, Try.ntmps14
  go_wp2
  go_ret
  exact ⟨rfl, rfl⟩
theorem q_len_nil (W : World) : Calls Try.prog 14 #[.pointer none] W fun e w' => e = .returned (.int .i64 0) ∧ w' = W := by
  go_enter Try.func14, Try.ntmps14
  go_wp2
  go_ret
  exact ⟨rfl, rfl⟩
theorem q_sent {base : Nat} {W : World} {q : Nat} {ob : Option Nat} {s : QS} (h : QAt base W q ob s) : Calls Try.prog 16 #[.pointer (some ⟨q, 0, none⟩)] W fun e w' => e = .returned (.int .i64 s.sent) ∧ w' = W := by
  obtain ⟨v, h1, rfl, h3, h4⟩ := h
  have c1 := blk_cell h1 2
  clear h1 h3 h4
  go_enter Try.func16, Try.ntmps16
  go_wp2
  go_ret
  exact ⟨rfl, rfl⟩
theorem q_sent_nil (W : World) : Calls Try.prog 16 #[.pointer none] W fun e w' => e = .returned (.int .i64 0) ∧ w' = W := by
  go_enter Try.func16, Try.ntmps16
  go_wp2
  go_ret
  exact ⟨rfl, rfl⟩
theorem q_over {base : Nat} {W : World} {q : Nat} {ob : Option Nat} {s : QS} (h : QAt base W q ob s) : Calls Try.prog 17 #[.pointer (some ⟨q, 0, none⟩)] W fun e w' => e = .returned (.bool s.over) ∧ w' = W := by
  obtain ⟨v, h1, rfl, h3, h4⟩ := h
  have c1 := blk_cell h1 4
  clear h1 h3 h4
  go_enter Try.func17, Try.ntmps17
  go_wp2
  go_ret
  exact ⟨rfl, rfl⟩
theorem q_over_nil (W : World) : Calls Try.prog 17 #[.pointer none] W fun e w' => e = .returned (.bool false) ∧ w' = W := by
  go_enter Try.func17, Try.ntmps17
  go_wp2
  go_ret
  exact ⟨rfl, rfl⟩
theorem q_push_nil (l : ByteArray) (W : World) : Calls Try.prog 11 #[.pointer none, .string l] W fun e w' => e = .returned (.bool false) ∧ w' = W := by
  go_enter Try.func11, Try.ntmps11
  go_wp2
  go_ret
  exact ⟨rfl, rfl⟩
theorem q_drain_nil (n : Int) (W : World) : Calls Try.prog 9 #[.pointer none, .int .i64 n] W fun e w' => e = .returned (.slice none 0 0) ∧ w' = W := by
  go_enter Try.func9, Try.ntmps9
  go_wp2_with fail
  refine (q_len_nil W).mono ?_
  rintro e w' ⟨rfl, rfl⟩
  go_wp2
  go_ret
  exact ⟨rfl, rfl⟩
end Go.Proofs.Ytadbpgkhenbpfaa
