/- Texts of this proof, one behind the other. -/
import Derived.Test.YtpbobonddocgkaaGreatDoorCoreOnceG4
import Derived.Test.YtpbobonddocgkaaGreatDoorProg
import Derived.Laws.IdiomStrings
import Derived.IntWalk
import Derived.Deep.QuietTactic
import Derived.BigQuiet
import Derived.Test.YtpbobonddocgkaaGreatDoorCoreOnceG17
import Derived.Test.YtpbobonddocgkaaGreatDoorCoreOnceG11
import Derived.Test.YtpbobonddocgkaaGreatDoorCoreOnceG13
import Derived.Defers
import Derived.Test.YtpbobonddocgkaaGreatDoorCoreOnceG20
import Derived.Test.YtpbobonddocgkaaGreatDoorCoreOnceG18
set_option linter.unusedVariables false
set_option linter.unusedSimpArgs false
section
/- Rows of bytes: of the call's own, and as they lie anywhere; append of the one onto the other. -/
namespace Go.Proofs.YtpbobonddocgkaaGreatDoor
open Go Go.RowKit

theorem add8 (g o n : Nat) : (⟨g, o, none⟩ : Addr).add n = ⟨g, o + n, none⟩ := by
  by_cases h : n = 0
  · subst h; simp [Addr.add]
  · simp [Addr.add, h]
/-- a byte in a cell -/
def enc8 (b : UInt8) : Value := .int .u8 b.toNat
/-- slice v holds these bytes, in a row of its own -/
def Own8 (base : Nat) (W : World) (v : Value) (xs : List UInt8) : Prop := W.ownsRow base 5 1 v xs.length (xs.map enc8)
theorem Tryz.info8 : (Tryz.prog.info? 5).map (fun i => (i.zero, i.size, i.bytes)) = some (some (.int .u8 0), 1, 1) := by kernel_rfl
theorem own8_kept {base : Nat} {w W : World} {v : Value} {xs : List UInt8} (h : Own8 base w v xs) (hs : ∀ g, v.ownBlock = some g → W.heap[g]? = w.heap[g]?) : Own8 base W v xs := row_same h hs
theorem own8_nil (base : Nat) (w : World) : Own8 base w (.slice none 0 0) [] := World.ownsRow_nil _ _ _ _
theorem own8_base {W : World} {base base' : Nat} {v : Value} {xs : List UInt8} (h : Own8 base W v xs) (hb : base' ≤ base) : Own8 base' W v xs := by
  obtain ⟨h1, h2⟩ := h
  refine ⟨h1, ?_⟩
  rcases h2 with h2 | ⟨g, cap, cur, h3, h4, h5⟩
  · exact .inl h2
  · exact .inr ⟨g, cap, cur, h3, by omega, h5⟩
theorem own8_app {base : Nat} {w : World} {v : Value} {xs ys : List UInt8} (h : w.ownsRow base 5 1 v (xs.length + ys.length) (xs.map enc8 ++ ys.map enc8)) : Own8 base w v (xs ++ ys) := by
  unfold Own8; rw [List.length_append, List.map_append]; exact h
/-- its text -/
theorem conv_own8 {W : World} {base : Nat} {v : Value} {xs : List UInt8} (h : Own8 base W v xs) : (convert 22 9 v).run Tryz.prog W = .ok (.string (bs xs)) W := by
  have h' := h
  rcases h.2 with ⟨rfl, h0⟩ | ⟨g, cap, cur, rfl, _⟩
  · obtain rfl : xs = [] := List.length_eq_zero_iff.1 h0
    exact run_convert_bytes_nil W 22 5 Tryz.underlying22 Tryz.underlying5 0 0 9 Tryz.underlying9
  · exact run_convert_bytes_back W 22 9 5 ⟨g, 0, none⟩ cap xs Tryz.underlying22 Tryz.underlying5 Tryz.underlying9 fun j hj => h'.cells (g := g) rfl j _ (by simp [hj, enc8])
/-- what an own slice looks like -/
theorem own8_form {base : Nat} {W : World} {v : Value} {xs : List UInt8} (h : Own8 base W v xs) : ∃ A c, v = .slice A xs.length c ∧ xs.length ≤ c ∧ c ≤ maxLen ∧ (∀ k, v.ownBlock = some k → base ≤ k ∧ k < W.heap.size) := by
  rcases h.2 with ⟨rfl, h0⟩ | ⟨g, cap, cur, rfl, hb, hg, hn, hm, _⟩
  · obtain rfl : xs = [] := List.length_eq_zero_iff.1 h0
    exact ⟨none, 0, rfl, Nat.le_refl _, Nat.zero_le _, fun k hk => by cases hk⟩
  · exact ⟨_, cap, rfl, hn, hm, fun k hk => by cases hk; exact ⟨hb, (Array.getElem?_eq_some_iff.1 hg).1⟩⟩
/-- none of it -/
theorem own8_clear {base : Nat} {W : World} {A : Option Addr} {n c : Nat} {xs : List UInt8} (h : Own8 base W (.slice A n c) xs) : Own8 base W (.slice A 0 c) [] := by
  rcases h.2 with ⟨e, h0⟩ | ⟨g, cap, cur, e, hb, hg, hn, hm, hcs, ht⟩
  · cases e; exact own8_nil _ _
  · cases e; exact ⟨rfl, .inr ⟨g, c, cur, rfl, hb, hg, Nat.zero_le _, hm, hcs, by simp⟩⟩

/-- bytes as they lie at an address -/
def Lie8 (w : World) (A : Option Addr) (l : List UInt8) : Prop := 0 < l.length → ∃ g o, A = some ⟨g, o, none⟩ ∧ g < w.heap.size ∧ ∀ j (h : j < l.length), w.cell? ⟨g, o + j, none⟩ = some (enc8 l[j])
/-- slice v holds these bytes, wherever -/
def At8 (w : World) (v : Value) (l : List UInt8) : Prop := ∃ A c, v = .slice A l.length c ∧ l.length ≤ c ∧ c ≤ maxLen ∧ (A = none → c = 0) ∧ Lie8 w A l
theorem lie8_kept {w W : World} {X : Nat → Prop} {A : Option Addr} {l : List UInt8} (h : Lie8 w A l) (hf : Fr X w W) (hx : ∀ a, A = some a → 0 < l.length → ¬ X a.block) : Lie8 W A l := fun h0 => by
  obtain ⟨g, o, rfl, hg, hc⟩ := h h0
  exact ⟨g, o, rfl, Nat.lt_of_lt_of_le hg hf.size, fun j hj => (hf.cell (p := ⟨g, o + j, none⟩) hg (hx ⟨g, o, none⟩ rfl h0)).trans (hc j hj)⟩
theorem at8_kept {w W : World} {X : Nat → Prop} {v : Value} {l : List UInt8} (h : At8 w v l) (hf : Fr X w W) (hx : ∀ k, 0 < l.length → v.ownBlock = some k → ¬ X k) : At8 W v l := by
  obtain ⟨A, c, rfl, h1, h2, h3, h4⟩ := h
  refine ⟨A, c, rfl, h1, h2, h3, ?_⟩
  intro h0
  obtain ⟨g, o, rfl, hg, hc⟩ := h4 h0
  exact ⟨g, o, rfl, Nat.lt_of_lt_of_le hg hf.size, fun j hj => (hf.cell (p := ⟨g, o + j, none⟩) hg (hx g h0 rfl)).trans (hc j hj)⟩
theorem cell_same {w W : World} {p : Addr} (h : W.heap[p.block]? = w.heap[p.block]?) : W.cell? p = w.cell? p := World.cell?_of_block (w := w) h
theorem lt_same {w W : World} {g : Nat} (h : W.heap[g]? = w.heap[g]?) (hg : g < w.heap.size) : g < W.heap.size := by
  rw [Array.getElem?_eq_getElem hg] at h
  exact (Array.getElem?_eq_some_iff.1 h).1
theorem at8_same {w W : World} {v : Value} {l : List UInt8} (h : At8 w v l) (hs : ∀ k, 0 < l.length → v.ownBlock = some k → W.heap[k]? = w.heap[k]?) : At8 W v l := by
  obtain ⟨A, c, rfl, h1, h2, h3, h4⟩ := h
  refine ⟨A, c, rfl, h1, h2, h3, ?_⟩
  intro h0
  obtain ⟨g, o, rfl, hg, hc⟩ := h4 h0
  exact ⟨g, o, rfl, lt_same (hs g h0 rfl) hg, fun j hj => (cell_same (p := ⟨g, o + j, none⟩) (hs g h0 rfl)).trans (hc j hj)⟩
theorem sliced_block {A : Option Addr} {lo n c hi : Nat} {k : Nat} (h : (sliced A lo hi c 1).ownBlock = some k) : (Value.slice A n c).ownBlock = some k := by
  cases A with
  | none => simp only [sliced] at h; split at h <;> cases h
  | some a =>
    obtain ⟨b, o, s⟩ := a
    simp only [sliced] at h
    split at h
    · exact h
    · have e : ((⟨b, o, s⟩ : Addr).add (lo * 1)).block = b := by unfold Addr.add; split <;> first | rfl | (cases s <;> rfl)
      simp only [Option.map_some, Value.ownBlock] at h ⊢
      rw [e] at h
      exact h
theorem at8_take {w : World} {A : Option Addr} {c : Nat} {l : List UInt8} (h1 : l.length ≤ c) (h2 : c ≤ maxLen) (h3 : A = none → c = 0) (h4 : Lie8 w A l) (n : Nat) (hn : n ≤ l.length) : At8 w (sliced A 0 n c 1) (l.take n) := by
  have e : (l.take n).length = n := by simp [Nat.min_eq_left hn]
  refine ⟨A, c, ?_, by omega, h2, h3, fun h0 => ?_⟩
  · rw [e]
    simp only [sliced, Nat.sub_zero, Nat.zero_mul]
    congr 1
    split
    · rfl
    · cases A with
      | none => rfl
      | some a => obtain ⟨b, o, s⟩ := a; cases s <;> simp [Addr.add]
  · obtain ⟨g, o, rfl, hg, hc⟩ := h4 (by omega)
    exact ⟨g, o, rfl, hg, fun j hj => by rw [hc j (by omega)]; simp⟩
theorem at8_drop {w : World} {A : Option Addr} {c : Nat} {l : List UInt8} (h1 : l.length ≤ c) (h2 : c ≤ maxLen) (h3 : A = none → c = 0) (h4 : Lie8 w A l) (n : Nat) (hn : n ≤ l.length) : At8 w (sliced A n l.length c 1) (l.drop n) := by
  have e : (l.drop n).length = l.length - n := by simp
  refine ⟨if c = n then A else A.map (·.add (n * 1)), c - n, ?_, by omega, by omega, fun h0 => ?_, fun h0 => ?_⟩
  · rw [e]; rfl
  · split at h0
    · have := h3 h0; omega
    · cases A with
      | none => have := h3 rfl; omega
      | some a => cases h0
  · obtain ⟨g, o, rfl, hg, hc⟩ := h4 (by omega)
    rw [if_neg (by omega)]
    refine ⟨g, o + n, by simp [Addr.add], hg, fun j hj => ?_⟩
    have := hc (n + j) (by omega)
    rw [show o + n + j = o + (n + j) by omega, this]
    simp
theorem at8_lt {w : World} {v : Value} {l : List UInt8} (h : At8 w v l) (h0 : 0 < l.length) {k : Nat} (hk : v.ownBlock = some k) : k < w.heap.size := by
  obtain ⟨A, c, rfl, _, _, _, h4⟩ := h
  obtain ⟨g, o, rfl, hg, _⟩ := h4 h0
  cases hk; exact hg
theorem at8_block {w : World} {v : Value} {l : List UInt8} (h : At8 w v l) : ∃ A c, v = .slice A l.length c ∧ Lie8 w A l := by
  obtain ⟨A, c, rfl, _, _, _, h⟩ := h; exact ⟨A, c, rfl, h⟩
theorem at8_pre {w : World} {A : Option Addr} {c : Nat} {a b : List UInt8} (h1 : (a ++ b).length ≤ c) (h2 : c ≤ maxLen) (h3 : A = none → c = 0) (h4 : Lie8 w A (a ++ b)) : At8 w (.slice A a.length c) a := by
  rw [List.length_append] at h1
  refine ⟨A, c, rfl, by omega, h2, h3, fun h0 => ?_⟩
  obtain ⟨g, o, rfl, hg, hc⟩ := h4 (by rw [List.length_append]; omega)
  refine ⟨g, o, rfl, hg, fun j hj => ?_⟩
  rw [hc j (by rw [List.length_append]; omega), List.getElem_append_left hj]
/-- what a slice without its first n bytes is, as one value -/
theorem run_drop8 {A : Option Addr} {c : Nat} {l : List UInt8} (n : Nat) (hn : n ≤ l.length) (hl : l.length ≤ 1000000000) : ∃ A2, (∀ W, (Instr.slice 22 (.slice A l.length c) (some (.int .i64 (n : Int))) none none).run Tryz.prog W = .ok (.slice A2 (l.length - n) (c - n)) W) ∧ Value.slice A2 (l.length - n) (c - n) = sliced A n l.length c 1 := by
  refine ⟨if c = n then A else A.map (·.add (n * 1)), fun W => ?_, rfl⟩
  have hu : Tryz.prog.underlying 22 = some (.slice (Tryz.prog.elem 22)) := by kernel_rfl
  rw [run_slice_l W 22 _ _ _ hu _ _ (by omega) (by omega)]
  have hs : (sizeOf (Tryz.prog.elem 22)).run Tryz.prog W = .ok 1 W := by kernel_rfl
  rw [hs]
  simp [Result.andThen, sliced]
/-- an own one lies somewhere -/
theorem own8_at {base : Nat} {W : World} {v : Value} {xs : List UInt8} (h : Own8 base W v xs) : At8 W v xs := by
  have h' := h
  rcases h.2 with ⟨rfl, h0⟩ | ⟨g, cap, cur, rfl, hb, hg, hn, hm, _⟩
  · obtain rfl : xs = [] := List.length_eq_zero_iff.1 h0
    exact ⟨none, 0, rfl, Nat.le_refl _, Nat.zero_le _, fun _ => rfl, fun h => absurd h (by simp)⟩
  · refine ⟨_, cap, rfl, hn, hm, (fun e => by cases e), fun _ => ⟨g, 0, rfl, (Array.getElem?_eq_some_iff.1 hg).1, fun j hj => ?_⟩⟩
    have := h'.cells (g := g) rfl j (enc8 xs[j]) (by simp [hj])
    rwa [add8] at this
/-- as what is appended -/
theorem src8 {w : World} {v : Value} {l : List UInt8} (h : At8 w v l) : Src Tryz.prog 1 22 v l.length (l.map enc8) w := by
  obtain ⟨A, c, rfl, h1, h2, h3, h4⟩ := h
  cases A with
  | none =>
    obtain rfl : c = 0 := h3 rfl
    obtain rfl : l = [] := List.length_eq_zero_iff.1 (by omega)
    exact Src.ofNil w Tryz.underlying22 0
  | some a =>
    refine Src.ofSlice w Tryz.underlying22 a _ c _ (by simp) (fun j u hu => ?_) (fun u hu => ?_)
    · have hj : j < l.length := by have := (List.getElem?_eq_some_iff.1 hu).1; simpa using this
      obtain ⟨g, o, e, hg, hc⟩ := h4 (by omega)
      cases e
      rw [add8, hc j hj]
      simpa [hj] using hu
    · obtain ⟨b, _, rfl⟩ := List.mem_map.1 hu; rfl
end Go.Proofs.YtpbobonddocgkaaGreatDoor
end
section
/- Layer 5: a framer as it lies; New, keep, Rest, Lost. -/
namespace Go.Proofs.YtpbobonddocgkaaGreatDoor
open Go Go.RowKit

/-- what waits, and whether it is too long -/
abbrev FSt : Type := List UInt8 × Bool
def keepM (s : FSt) (l : List UInt8) : FSt := if s.2 = true ∨ 510 - s.1.length < l.length then ([], true) else (s.1 ++ l, false)
/-- a framer at block F, whose bytes lie in slice v -/
def FrA (F : Nat) (v : Value) (s : FSt) (w : World) : Prop := w.heap[F]? = some (.cells #[v, .bool s.2] 118 (0, 0)) ∧ Own8 0 w v s.1 ∧ v.ownBlock ≠ some F ∧ s.1.length ≤ 510
theorem frA_kept {F : Nat} {v : Value} {s : FSt} {w W : World} {X : Nat → Prop} (h : FrA F v s w) (hf : Fr X w W) (h1 : ¬ X F) (h2 : ∀ k, v.ownBlock = some k → ¬ X k) : FrA F v s W :=
  ⟨hf.blk h.1 h1, own8_kept h.2.1 fun g hg => hf.block g ((own8_form h.2.1).elim fun A ⟨c, e⟩ => (e.2.2.2 g hg).2) (h2 g hg), h.2.2.1, h.2.2.2⟩
theorem keepM_len (s : FSt) (l : List UInt8) (h : s.1.length ≤ 510) : (keepM s l).1.length ≤ 510 := by
  unfold keepM
  split
  · exact Nat.zero_le _
  · simp only [not_or, List.length_append] at *; omega

set_option maxRecDepth 100000 in
set_option maxHeartbeats 4000000 in
theorem newFr (w : World) : Calls Tryz.prog 26 #[] w fun e w' => e = .returned (.pointer (some ⟨w.heap.size, 0, none⟩)) ∧ FrA w.heap.size (.slice none 0 0) ([], false) w' ∧ Fr (fun _ => False) w w' ∧ w.heap.size < w'.heap.size := by
  go_enter Tryz.func26, Tryz.ntmps26
  go_wp2_with fail
  go_ret
  exact ⟨rfl, ⟨World.alloc_heap_new w _, own8_nil _ _, (fun e => by cases e), Nat.zero_le _⟩, (Fr.refl _ w).alloc _, by simp⟩





/-- a line as a value -/
def lineV (x : FSt) : Value := .agg #[.string (bs x.1), .bool x.2]
end Go.Proofs.YtpbobonddocgkaaGreatDoor
end
section
/- Layer 23: Connect. -/
namespace Go.Proofs.YtpbobonddocgkaaGreatDoor
open Go Go.RowKit Go.Maps Go.Lib Go.Sort Go.Shelf

/-- a connection that came just now -/
def newE (B q f : Nat) (most : Int) : CE := ⟨B, q, f, none, [], [], false, ⟨most, [], 0, false, false⟩⟩
theorem bs_none : bs ([] : List UInt8) = ({ data := #[] } : ByteArray) := rfl
theorem host_h : dec (HostP (bs hostL)) = true := by
  refine dec_iff.2 ⟨⟨by decide, by decide⟩, fun i hi => ?_⟩
  have : i = 0 := by have h2 : (bs hostL).size = 1 := rfl; omega
  subst this
  rfl
section
variable {base : Nat} {w w' : World} {G : CoG} {C : Nat → CTag} {K : List (Int × CE)} {T : List (KeyB × Ent VI)} {n : Nat}
theorem mlenC {b : Nat} {S : List (Int × Nat)} (h : OwnMIS w b S) : (Builtin.len_ #[45] 3 #[.map (some b)]).run Tryz.prog w = .ok (.int .i64 S.length) w := by
  obtain ⟨⟨D, a5, a6⟩, a7⟩ := h
  have hl := a5.len Tryz.underlying45 3
  rw [a6.size] at hl
  exact hl
set_option maxRecDepth 100000 in
set_option maxHeartbeats 16000000 in
theorem connect_any (h : CoAt base G C K T n w) (hg : GlobB base w) (hn : n ≤ 1000) {id : Int} (hid : OkKIS id) (hl : lookM K id = none) (h0 : 0 ≤ id) (hK : (K.length : Int) < G.n0) (hK2 : K.length ≤ 1000) (hm : 512 ≤ G.n1 ∧ G.n1 ≤ 65536) :
    Calls Tryz.prog 6 #[.pointer (some ⟨G.c, 0, none⟩), .int .i64 id, .string (bs hostL)] w fun r w' => r = .returned (.bool true) ∧ ∃ B q f, CoTo base G C (K ++ [(id, newE B q f G.n1)]) T (n + 1) w w' := by
  have HTh := Lib.hid (fun W (hW : Fr (fun _ => False) w W) => there_none (h.fr hW fun _ _ e => e) hid hl)
  have HP := Lib.hid (fun W (hW : Fr (fun _ => False) w W) => And.intro (show W.cell? ⟨G.c, 16, none⟩ = some (.map (some G.m)) from (h.fr hW fun _ _ e => e).cell 16) (And.intro (show W.cell? ⟨G.c, 4, none⟩ = some (.int .i64 G.n0) from (h.fr hW fun _ _ e => e).cell 4)
    (show (Builtin.len_ #[45] 3 #[.map (some G.m)]).run Tryz.prog W = .ok (.int .i64 K.length) W from by have := mlenC (h.fr hW fun _ _ e => e).mp; rwa [List.length_map] at this)))
  have p4 : decide (id < 0) = false := by simp; omega
  have p4' : ¬ id < 0 := by omega
  have p22 : decide (G.n0 ≤ (K.length : Int)) = false := by simp; omega
  have p22' : ¬ G.n0 ≤ (K.length : Int) := by omega
  have HHv := Lib.hid (fun W (hW : Below w.heap.size w W) => (by have := host_v (bs hostL) W (by decide) (hg.onto (hW.mono h.base_le)).glob.1; rw [host_h] at this; exact this : Calls Tryz.prog 24 #[.string (bs hostL)] W fun e w' => e = .returned (.bool true) ∧ W = w'))
  have HQn := Lib.hid (fun W => q_new G.n1 hm.1 hm.2 W)
  have HC5 := Lib.hid (fun W (hW : Below w.heap.size w W) => (show W.cell? ⟨G.c, 5, none⟩ = some (.int .i64 G.n1) from (h.below hW).cell 5))
  have H := Lib.hid (And.intro h (And.intro hg (And.intro hn (And.intro hid (And.intro hl hK2)))))
  have mixed : (Tryz.prog).follows Departure.mixedOrders = true := by kernel_rfl
  clear h hg hn hid hl h0 hK hK2 hm
  go_enter Tryz.func6, Tryz.ntmps6
  go_upto_region 1 with fail
  refine wp_region_held_drew (S := fun W => Fr (fun _ => False) w W) (by kernel_rfl) (by exact (Fr.refl _ w).drew) (fun hHeld => ?_)
  refine wpAnyH_read (i := 0) (oi := { dst := some 9, op := Go.Op.move (Go.Operand.tmp 0), type := 24, pos := "core.go:174", after := #[], guard := none }) ?_ rfl (by kernel_rfl) (by kernel_rfl) (by kernel_rfl) (fun _ _ _ h => h) (by rfl) (by assumption) ?_ ?_
  rotate_left
  · (intro w0 hS0; go_simp <;> (try with_reducible rfl))
  try simp only [Act.put, List.setIfInBounds_toArray, List.set_cons_zero, List.set_cons_succ]
  refine wpAnyH_read (i := 1) (oi := { dst := some 10, op := Go.Op.binOp Go.BinOp.eql 24 (Go.Operand.tmp 9) (Go.Operand.const (Go.Value.pointer none)) 24, type := 4, pos := "core.go:174", after := #[{ on := 0, ground := Go.Ground.data }], guard := none }) ?_ rfl (by kernel_rfl) (by kernel_rfl) (by kernel_rfl) (fun _ _ _ h => h) (by rfl) (by assumption) ?_ ?_
  rotate_left
  · (intro w0 hS0; go_simp <;> (try with_reducible rfl))
  try simp only [Act.put, List.setIfInBounds_toArray, List.set_cons_zero, List.set_cons_succ]
  refine wpAnyH_read (i := 2) (oi := { dst := some 11, op := Go.Op.move (Go.Operand.tmp 10), type := 4, pos := "core.go:174", after := #[{ on := 1, ground := Go.Ground.data }], guard := none }) ?_ rfl (by kernel_rfl) (by kernel_rfl) (by kernel_rfl) (fun _ _ _ h => h) (by rfl) (by assumption) ?_ ?_
  rotate_left
  · (intro w0 hS0; go_simp <;> (try with_reducible rfl))
  try simp only [Act.put, List.setIfInBounds_toArray, List.set_cons_zero, List.set_cons_succ]
  refine wpAnyH_read (i := 3) (oi := { dst := some 12, op := Go.Op.move (Go.Operand.tmp 1), type := 3, pos := "core.go:174", after := #[{ on := 2, ground := Go.Ground.guard }], guard := some (2, false) }) ?_ rfl (by kernel_rfl) (by kernel_rfl) (by kernel_rfl) (fun _ _ _ h => h) (by rfl) (by assumption) ?_ ?_
  rotate_left
  · (intro w0 hS0; go_simp <;> (try with_reducible rfl))
  try simp only [Act.put, List.setIfInBounds_toArray, List.set_cons_zero, List.set_cons_succ]
  refine wpAnyH_read (i := 4) (oi := { dst := some 13, op := Go.Op.binOp Go.BinOp.lss 3 (Go.Operand.tmp 12) (Go.Operand.const (Go.Value.int Go.IntKind.i64 0)) 3, type := 4, pos := "core.go:174", after := #[{ on := 3, ground := Go.Ground.data }, { on := 2, ground := Go.Ground.guard }], guard := some (2, false) }) ?_ rfl (by kernel_rfl) (by kernel_rfl) (by kernel_rfl) (fun _ _ _ h => h) (by rfl) (by assumption) ?_ ?_
  rotate_left
  · (intro w0 hS0; obtain ⟨s16, s4, sl⟩ := HP.out w0 hS0; (try clear hHeld); go_simp <;> (try with_reducible rfl))
  try simp only [Act.put, List.setIfInBounds_toArray, List.set_cons_zero, List.set_cons_succ]
  refine wpAnyH_read (i := 5) (oi := { dst := some 14, op := Go.Op.pick (Go.Operand.tmp 11) (Go.Operand.const (Go.Value.bool true)) (Go.Operand.tmp 13), type := 4, pos := "core.go:174", after := #[{ on := 2, ground := Go.Ground.data }, { on := 4, ground := Go.Ground.data }], guard := none }) ?_ rfl (by kernel_rfl) (by kernel_rfl) (by kernel_rfl) (fun _ _ _ h => h) (by rfl) (by assumption) ?_ ?_
  rotate_left
  · (intro w0 hS0; go_simp <;> (try with_reducible rfl))
  try simp only [Act.put, List.setIfInBounds_toArray, List.set_cons_zero, List.set_cons_succ]
  refine wpAnyH_read (i := 6) (oi := { dst := some 15, op := Go.Op.move (Go.Operand.tmp 14), type := 4, pos := "core.go:174", after := #[{ on := 5, ground := Go.Ground.data }, { on := 2, ground := Go.Ground.chain }], guard := none }) ?_ rfl (by kernel_rfl) (by kernel_rfl) (by kernel_rfl) (fun _ _ _ h => h) (by rfl) (by assumption) ?_ ?_
  rotate_left
  · (intro w0 hS0; go_simp <;> (try with_reducible rfl))
  try simp only [Act.put, List.setIfInBounds_toArray, List.set_cons_zero, List.set_cons_succ]
  refine wpAnyH_read (i := 7) (oi := { dst := some 16, op := Go.Op.move (Go.Operand.tmp 0), type := 24, pos := "core.go:174", after := #[{ on := 6, ground := Go.Ground.guard }], guard := some (6, false) }) ?_ rfl (by kernel_rfl) (by kernel_rfl) (by kernel_rfl) (fun _ _ _ h => h) (by rfl) (by assumption) ?_ ?_
  rotate_left
  · (intro w0 hS0; go_simp <;> (try with_reducible rfl))
  try simp only [Act.put, List.setIfInBounds_toArray, List.set_cons_zero, List.set_cons_succ]
  refine wpAnyH_read (i := 8) (oi := { dst := some 17, op := Go.Op.move (Go.Operand.tmp 1), type := 3, pos := "core.go:174", after := #[{ on := 6, ground := Go.Ground.guard }], guard := some (6, false) }) ?_ rfl (by kernel_rfl) (by kernel_rfl) (by kernel_rfl) (fun _ _ _ h => h) (by rfl) (by assumption) ?_ ?_
  rotate_left
  · (intro w0 hS0; go_simp <;> (try with_reducible rfl))
  try simp only [Act.put, List.setIfInBounds_toArray, List.set_cons_zero, List.set_cons_succ]
  refine wpAnyH_one (i := 9) (o := { dst := some 18, op := Go.Op.call { callee := Go.Callee.value (Go.Operand.func 23), args := #[Go.Operand.tmp 16, Go.Operand.tmp 17], argTypes := #[24, 3] }, type := 4, pos := "core.go:174", after := #[{ on := 7, ground := Go.Ground.data }, { on := 8, ground := Go.Ground.data }, { on := 6, ground := Go.Ground.chain }, { on := 6, ground := Go.Ground.guard }], guard := some (6, false) }) (by kernel_rfl) rfl (by rfl) (fun K hK => ?_)
  clear hHeld
  go_simp
  refine (HTh.out _ ((Fr.refl _ w).drew)).mono ?_
  rintro r1 Wa ⟨rfl, rfl⟩
  refine hK.out _ _ ?_ (fun hHeld => ?_)
  · exact (Fr.refl _ w).drew
  clear hK K
  try simp only [Act.put, List.setIfInBounds_toArray, List.set_cons_zero, List.set_cons_succ]
  refine wpAnyH_read (i := 10) (oi := { dst := some 19, op := Go.Op.pick (Go.Operand.tmp 15) (Go.Operand.const (Go.Value.bool true)) (Go.Operand.tmp 18), type := 4, pos := "core.go:174", after := #[{ on := 6, ground := Go.Ground.data }, { on := 9, ground := Go.Ground.data }], guard := none }) ?_ rfl (by kernel_rfl) (by kernel_rfl) (by kernel_rfl) (fun _ _ _ h => h) (by rfl) (by assumption) ?_ ?_
  rotate_left
  · (intro w0 hS0; go_simp <;> (try with_reducible rfl))
  try simp only [Act.put, List.setIfInBounds_toArray, List.set_cons_zero, List.set_cons_succ]
  refine wpAnyH_read (i := 11) (oi := { dst := some 20, op := Go.Op.move (Go.Operand.tmp 19), type := 4, pos := "core.go:174", after := #[{ on := 10, ground := Go.Ground.data }, { on := 9, ground := Go.Ground.chain }], guard := none }) ?_ rfl (by kernel_rfl) (by kernel_rfl) (by kernel_rfl) (fun _ _ _ h => h) (by rfl) (by assumption) ?_ ?_
  rotate_left
  · (intro w0 hS0; go_simp <;> (try with_reducible rfl))
  try simp only [Act.put, List.setIfInBounds_toArray, List.set_cons_zero, List.set_cons_succ]
  refine wpAnyH_read (i := 12) (oi := { dst := some 21, op := Go.Op.move (Go.Operand.tmp 0), type := 24, pos := "core.go:174", after := #[{ on := 11, ground := Go.Ground.guard }], guard := some (11, false) }) ?_ rfl (by kernel_rfl) (by kernel_rfl) (by kernel_rfl) (fun _ _ _ h => h) (by rfl) (by assumption) ?_ ?_
  rotate_left
  · (intro w0 hS0; go_simp <;> (try with_reducible rfl))
  try simp only [Act.put, List.setIfInBounds_toArray, List.set_cons_zero, List.set_cons_succ]
  refine wpAnyH_read (i := 13) (oi := { dst := some 22, op := Go.Op.nilCheck (Go.Operand.tmp 21), type := 0, pos := "core.go:174", after := #[{ on := 12, ground := Go.Ground.data }, { on := 11, ground := Go.Ground.guard }], guard := some (11, false) }) ?_ rfl (by kernel_rfl) (by kernel_rfl) (by kernel_rfl) (fun _ _ _ h => h) (by rfl) (by assumption) ?_ ?_
  rotate_left
  · (intro w0 hS0; go_simp <;> (try with_reducible rfl))
  try simp only [Act.put, List.setIfInBounds_toArray, List.set_cons_zero, List.set_cons_succ]
  refine wpAnyH_read (i := 14) (oi := { dst := some 23, op := Go.Op.fieldAddr 55 (Go.Operand.tmp 22) 2, type := 0, pos := "core.go:174", after := #[{ on := 13, ground := Go.Ground.data }, { on := 11, ground := Go.Ground.guard }], guard := some (11, false) }) ?_ rfl (by kernel_rfl) (by kernel_rfl) (by kernel_rfl) (fun _ _ _ h => h) (by rfl) (by assumption) ?_ ?_
  rotate_left
  · (intro w0 hS0; go_simp <;> (try with_reducible rfl))
  try simp only [Act.put, List.setIfInBounds_toArray, List.set_cons_zero, List.set_cons_succ]
  refine wpAnyH_read (i := 17) (oi := { dst := some 26, op := Go.Op.move (Go.Operand.tmp 0), type := 24, pos := "core.go:174", after := #[{ on := 11, ground := Go.Ground.guard }], guard := some (11, false) }) ?_ rfl (by kernel_rfl) (by kernel_rfl) (by kernel_rfl) (fun _ _ _ h => h) (by rfl) (by assumption) ?_ ?_
  rotate_left
  · (intro w0 hS0; go_simp <;> (try with_reducible rfl))
  try simp only [Act.put, List.setIfInBounds_toArray, List.set_cons_zero, List.set_cons_succ]
  refine wpAnyH_read (i := 18) (oi := { dst := some 27, op := Go.Op.nilCheck (Go.Operand.tmp 26), type := 0, pos := "core.go:174", after := #[{ on := 17, ground := Go.Ground.data }, { on := 11, ground := Go.Ground.guard }], guard := some (11, false) }) ?_ rfl (by kernel_rfl) (by kernel_rfl) (by kernel_rfl) (fun _ _ _ h => h) (by rfl) (by assumption) ?_ ?_
  rotate_left
  · (intro w0 hS0; go_simp <;> (try with_reducible rfl))
  try simp only [Act.put, List.setIfInBounds_toArray, List.set_cons_zero, List.set_cons_succ]
  refine wpAnyH_read (i := 19) (oi := { dst := some 28, op := Go.Op.fieldAddr 55 (Go.Operand.tmp 27) 0, type := 0, pos := "core.go:174", after := #[{ on := 18, ground := Go.Ground.data }, { on := 11, ground := Go.Ground.guard }], guard := some (11, false) }) ?_ rfl (by kernel_rfl) (by kernel_rfl) (by kernel_rfl) (fun _ _ _ h => h) (by rfl) (by assumption) ?_ ?_
  rotate_left
  · (intro w0 hS0; go_simp <;> (try with_reducible rfl))
  try simp only [Act.put, List.setIfInBounds_toArray, List.set_cons_zero, List.set_cons_succ]
  refine wpAnyH_read (i := 20) (oi := { dst := some 29, op := Go.Op.fieldAddr 29 (Go.Operand.tmp 28) 4, type := 0, pos := "core.go:174", after := #[{ on := 19, ground := Go.Ground.data }, { on := 11, ground := Go.Ground.guard }], guard := some (11, false) }) ?_ rfl (by kernel_rfl) (by kernel_rfl) (by kernel_rfl) (fun _ _ _ h => h) (by rfl) (by assumption) ?_ ?_
  rotate_left
  · (intro w0 hS0; go_simp <;> (try with_reducible rfl))
  try simp only [Act.put, List.setIfInBounds_toArray, List.set_cons_zero, List.set_cons_succ]
  refine wpAnyH_read (i := 15) (oi := { dst := some 24, op := Go.Op.load 45 (Go.Operand.tmp 23), type := 45, pos := "core.go:174", after := #[{ on := 14, ground := Go.Ground.data }, { on := 11, ground := Go.Ground.guard }], guard := some (11, false) }) ?_ rfl (by kernel_rfl) (by kernel_rfl) (by kernel_rfl) (fun _ _ _ h => h) (by rfl) (by assumption) ?_ ?_
  rotate_left
  · (intro w0 hS0; obtain ⟨s16, s4, sl⟩ := HP.out w0 hS0; (try clear hHeld); go_simp <;> (try with_reducible rfl))
  try simp only [Act.put, List.setIfInBounds_toArray, List.set_cons_zero, List.set_cons_succ]
  refine wpAnyH_read (i := 16) (oi := { dst := some 25, op := Go.Op.call { callee := Go.Callee.builtin Go.Builtin.len, args := #[Go.Operand.tmp 24], argTypes := #[45] }, type := 3, pos := "core.go:174", after := #[{ on := 15, ground := Go.Ground.data }, { on := 11, ground := Go.Ground.chain }, { on := 11, ground := Go.Ground.guard }], guard := some (11, false) }) ?_ rfl (by kernel_rfl) (by kernel_rfl) (by kernel_rfl) (fun _ _ _ h => h) (by rfl) (by assumption) ?_ ?_
  rotate_left
  · (intro w0 hS0; obtain ⟨s16, s4, sl⟩ := HP.out w0 hS0; (try clear hHeld); go_simp <;> (try with_reducible rfl))
  try simp only [Act.put, List.setIfInBounds_toArray, List.set_cons_zero, List.set_cons_succ]
  refine wpAnyH_read (i := 21) (oi := { dst := some 30, op := Go.Op.load 3 (Go.Operand.tmp 29), type := 3, pos := "core.go:174", after := #[{ on := 20, ground := Go.Ground.data }, { on := 11, ground := Go.Ground.guard }], guard := some (11, false) }) ?_ rfl (by kernel_rfl) (by kernel_rfl) (by kernel_rfl) (fun _ _ _ h => h) (by rfl) (by assumption) ?_ ?_
  rotate_left
  · (intro w0 hS0; obtain ⟨s16, s4, sl⟩ := HP.out w0 hS0; (try clear hHeld); go_simp <;> (try with_reducible rfl))
  try simp only [Act.put, List.setIfInBounds_toArray, List.set_cons_zero, List.set_cons_succ]
  refine wpAnyH_read (i := 22) (oi := { dst := some 31, op := Go.Op.binOp Go.BinOp.geq 3 (Go.Operand.tmp 25) (Go.Operand.tmp 30) 3, type := 4, pos := "core.go:174", after := #[{ on := 16, ground := Go.Ground.data }, { on := 21, ground := Go.Ground.data }, { on := 11, ground := Go.Ground.guard }], guard := some (11, false) }) ?_ rfl (by kernel_rfl) (by kernel_rfl) (by kernel_rfl) (fun _ _ _ h => h) (by rfl) (by assumption) ?_ ?_
  rotate_left
  · (intro w0 hS0; obtain ⟨s16, s4, sl⟩ := HP.out w0 hS0; (try clear hHeld); go_simp <;> (try with_reducible rfl))
  try simp only [Act.put, List.setIfInBounds_toArray, List.set_cons_zero, List.set_cons_succ]
  refine wpAnyH_read (i := 23) (oi := { dst := some 32, op := Go.Op.pick (Go.Operand.tmp 20) (Go.Operand.const (Go.Value.bool true)) (Go.Operand.tmp 31), type := 4, pos := "core.go:174", after := #[{ on := 11, ground := Go.Ground.data }, { on := 22, ground := Go.Ground.data }], guard := none }) ?_ rfl (by kernel_rfl) (by kernel_rfl) (by kernel_rfl) (fun _ _ _ h => h) (by rfl) (by assumption) ?_ ?_
  rotate_left
  · (intro w0 hS0; go_simp <;> (try with_reducible rfl))
  try simp only [Act.put, List.setIfInBounds_toArray, List.set_cons_zero, List.set_cons_succ]
  refine wpAnyH_done (by kernel_rfl) ?_ _
  have HHv2 := Lib.hid (HHv.out w.drew ((Below.refl _ _).drew))
  clear HHv HTh HP p4 p4' p22 p22'
  go_wp2_with fail
  refine HHv2.out.mono ?_
  rintro r w1 ⟨rfl, rfl⟩
  have c5 := HC5.out w.drew ((Below.refl _ _).drew)
  have HQ2 := Lib.hid (HQn.out w.drew)
  clear HHv2 HQn HC5
  go_wp2_with fail
  refine HQ2.out.mono ?_
  rintro r W5 ⟨rfl, hq5, b5⟩
  obtain ⟨q, hq⟩ : ∃ q, w.heap.size = q := ⟨_, rfl⟩
  have hb5 : Below w.heap.size w W5 := ((Below.refl _ w).drew).trans b5
  have hq5 : QAt q W5 q none ⟨G.n1, [], 0, false, false⟩ := by rw [← hq]; exact hq5
  obtain ⟨h, hg, hn, hid, hl, hK2⟩ := H.out
  have h5 := h.below hb5
  have HP6 := Lib.hid (fun W (hW : Fr (fun _ => False) W5 W) => (show W.cell? ⟨G.c, 16, none⟩ = some (.map (some G.m)) from (h5.fr hW fun _ _ e => e).cell 16))
  have HPut := Lib.hid (fun W (hW : Fr (fun _ => False) W5 W) (f : Nat) => mputC (h5.fr (hW.alloc (Obj.cells (connC (newE 0 q f G.n1)) 72)) fun _ _ e => e).mp hid W.heap.size (by rw [List.length_map]; omega))
  have H5 := Lib.hid (And.intro hb5 (And.intro hq5 hq))
  unfold connC newE at HPut
  dsimp only at HPut
  simp only [bs_none] at HPut
  clear h hg hn hid hl hK2 h5 hb5 hq5 b5 HQ2 c5
  go_upto_region 6 with fail
  refine wp_region_z (S := fun W => Fr (fun _ => False) W5 W) (z := 10) (by kernel_rfl) (by exact (Fr.refl _ W5).drew) (fun hHeld => ?_)
  refine wpAnyZ_read (i := 0) (oi := { dst := some 45, op := Go.Op.move (Go.Operand.tmp 0), type := 24, pos := "core.go:181", after := #[], guard := none }) ?_ rfl (by kernel_rfl) (by kernel_rfl) (by kernel_rfl) (by kernel_rfl) (fun _ _ _ h => h) (by rfl) (by assumption) ?_ ?_
  rotate_left
  · (intro w0 hS0; go_simp <;> (try with_reducible rfl))
  try simp only [Act.put, List.setIfInBounds_toArray, List.set_cons_zero, List.set_cons_succ]
  refine wpAnyZ_read (i := 1) (oi := { dst := some 46, op := Go.Op.nilCheck (Go.Operand.tmp 45), type := 0, pos := "core.go:181", after := #[{ on := 0, ground := Go.Ground.data }], guard := none }) ?_ rfl (by kernel_rfl) (by kernel_rfl) (by kernel_rfl) (by kernel_rfl) (fun _ _ _ h => h) (by rfl) (by assumption) ?_ ?_
  rotate_left
  · (intro w0 hS0; go_simp <;> (try with_reducible rfl))
  try simp only [Act.put, List.setIfInBounds_toArray, List.set_cons_zero, List.set_cons_succ]
  refine wpAnyZ_read (i := 2) (oi := { dst := some 47, op := Go.Op.fieldAddr 55 (Go.Operand.tmp 46) 2, type := 0, pos := "core.go:181", after := #[{ on := 1, ground := Go.Ground.data }], guard := none }) ?_ rfl (by kernel_rfl) (by kernel_rfl) (by kernel_rfl) (by kernel_rfl) (fun _ _ _ h => h) (by rfl) (by assumption) ?_ ?_
  rotate_left
  · (intro w0 hS0; go_simp <;> (try with_reducible rfl))
  try simp only [Act.put, List.setIfInBounds_toArray, List.set_cons_zero, List.set_cons_succ]
  refine wpAnyZ_read (i := 4) (oi := { dst := some 49, op := Go.Op.move (Go.Operand.tmp 1), type := 3, pos := "core.go:181", after := #[], guard := none }) ?_ rfl (by kernel_rfl) (by kernel_rfl) (by kernel_rfl) (by kernel_rfl) (fun _ _ _ h => h) (by rfl) (by assumption) ?_ ?_
  rotate_left
  · (intro w0 hS0; go_simp <;> (try with_reducible rfl))
  try simp only [Act.put, List.setIfInBounds_toArray, List.set_cons_zero, List.set_cons_succ]
  refine wpAnyZ_read (i := 5) (oi := { dst := some 50, op := Go.Op.move (Go.Operand.tmp 2), type := 9, pos := "core.go:181", after := #[], guard := none }) ?_ rfl (by kernel_rfl) (by kernel_rfl) (by kernel_rfl) (by kernel_rfl) (fun _ _ _ h => h) (by rfl) (by assumption) ?_ ?_
  rotate_left
  · (intro w0 hS0; go_simp <;> (try with_reducible rfl))
  try simp only [Act.put, List.setIfInBounds_toArray, List.set_cons_zero, List.set_cons_succ]
  refine wpAnyZ_read (i := 6) (oi := { dst := some 51, op := Go.Op.move (Go.Operand.tmp 7), type := 63, pos := "core.go:181", after := #[], guard := none }) ?_ rfl (by kernel_rfl) (by kernel_rfl) (by kernel_rfl) (by kernel_rfl) (fun _ _ _ h => h) (by rfl) (by assumption) ?_ ?_
  rotate_left
  · (intro w0 hS0; go_simp <;> (try with_reducible rfl))
  try simp only [Act.put, List.setIfInBounds_toArray, List.set_cons_zero, List.set_cons_succ]
  refine wpAnyZ_read (i := 3) (oi := { dst := some 48, op := Go.Op.load 45 (Go.Operand.tmp 47), type := 45, pos := "core.go:181", after := #[{ on := 2, ground := Go.Ground.data }], guard := none }) ?_ rfl (by kernel_rfl) (by kernel_rfl) (by kernel_rfl) (by kernel_rfl) (fun _ _ _ h => h) (by rfl) (by assumption) ?_ ?_
  rotate_left
  · (intro w0 hS0; have s16 := HP6.out w0 hS0; (try clear hHeld); go_simp <;> (try with_reducible rfl))
  try simp only [Act.put, List.setIfInBounds_toArray, List.set_cons_zero, List.set_cons_succ]
  refine wpAnyZ_one (i := 7) (o := { dst := some 52, op := Go.Op.call { callee := Go.Callee.value (Go.Operand.func 26), args := #[], argTypes := #[] }, type := 67, pos := "core.go:181", after := #[], guard := none }) (by kernel_rfl) rfl (by rfl) (fun K hK => ?_)
  clear hHeld
  go_simp
  refine (newFr _).mono ?_
  rintro r1 Wa ⟨rfl, _, ffr, _⟩
  obtain ⟨f, hf⟩ : ∃ f, W5.drew.heap.size = f := ⟨_, rfl⟩
  have HA : Hid (Fr (fun _ => False) W5 Wa) := (Fr.drew (Fr.refl _ W5)).trans ffr
  clear ffr
  rw [hf]
  refine hK.out _ _ ?_ (fun hHeld => ?_)
  · exact HA.out
  clear hK K
  try simp only [Act.put, List.setIfInBounds_toArray, List.set_cons_zero, List.set_cons_succ]
  refine wpAnyZ_read (i := 8) (oi := { dst := some 53, op := Go.Op.build 72 #[(0, Go.Operand.tmp 50), (1, Go.Operand.const (Go.Value.bool true)), (4, Go.Operand.tmp 51), (5, Go.Operand.tmp 52)], type := 72, pos := "core.go:181", after := #[{ on := 5, ground := Go.Ground.data }, { on := 6, ground := Go.Ground.data }, { on := 7, ground := Go.Ground.data }], guard := none }) ?_ rfl (by kernel_rfl) (by kernel_rfl) (by kernel_rfl) (by kernel_rfl) (fun _ _ _ h => h) (by rfl) (by assumption) ?_ ?_
  rotate_left
  · (intro w0 hS0; go_simp <;> (try with_reducible rfl))
  try simp only [Act.put, List.setIfInBounds_toArray, List.set_cons_zero, List.set_cons_succ]
  refine wpAnyZ_one (i := 9) (o := { dst := some 54, op := Go.Op.box 72 (Go.Operand.tmp 53), type := 66, pos := "core.go:181", after := #[{ on := 8, ground := Go.Ground.data }], guard := none }) (by kernel_rfl) rfl (by rfl) (fun K hK => ?_)
  clear hHeld
  go_simp
  refine hK.out _ _ ?_ (fun hHeld => ?_)
  · exact HA.out.alloc _
  clear hK K
  try simp only [Act.put, List.setIfInBounds_toArray, List.set_cons_zero, List.set_cons_succ]
  refine wpAnyZ_last (o := { dst := none, op := Go.Op.mapUpdate 45 (Go.Operand.tmp 48) (Go.Operand.tmp 49) (Go.Operand.tmp 54), type := 0, pos := "core.go:181", after := #[{ on := 3, ground := Go.Ground.data }, { on := 4, ground := Go.Ground.data }, { on := 9, ground := Go.Ground.data }, { on := 7, ground := Go.Ground.chain }, { on := 0, ground := Go.Ground.phase }, { on := 1, ground := Go.Ground.phase }, { on := 2, ground := Go.Ground.phase }, { on := 3, ground := Go.Ground.phase }, { on := 4, ground := Go.Ground.phase }, { on := 5, ground := Go.Ground.phase }, { on := 6, ground := Go.Ground.phase }, { on := 7, ground := Go.Ground.phase }, { on := 8, ground := Go.Ground.phase }, { on := 9, ground := Go.Ground.phase }], guard := none }) (by kernel_rfl) rfl (by rfl) (fun K hK => ?_)
  obtain ⟨W9, hr9, ho9, hf9⟩ := HPut.out Wa HA.out f
  (try clear hHeld)
  go_simp
  refine hK.out _ _ ?_
  clear hK K
  try simp only [Act.put, List.setIfInBounds_toArray, List.set_cons_zero, List.set_cons_succ]
  refine wpAnyZ_done (by kernel_rfl) ?_ _
  obtain ⟨h, hg, hn, hid, hl, hK2⟩ := H.out
  obtain ⟨hb5, hq5, hq⟩ := H5.out
  have fA := HA.out
  obtain ⟨B, hB⟩ : ∃ B, Wa.heap.size = B := ⟨_, rfl⟩
  have fB : Fr (fun _ => False) W5 (Wa.alloc (Obj.cells (connC (newE B q f G.n1)) 72)) := fA.alloc _
  have hsz : (Wa.alloc (Obj.cells (connC (newE B q f G.n1)) 72)).heap.size = B + 1 := by rw [World.size_alloc, hB]
  have f9 : Fr (fun k => k = G.m) (Wa.alloc (Obj.cells (connC (newE B q f G.n1)) 72)) W9 := hf9
  have kB : (Wa.alloc (Obj.cells (connC (newE B q f G.n1)) 72)).heap[B]? = some (Obj.cells (connC (newE B q f G.n1)) 72 (0, 0)) := by rw [← hB]; exact heap_alloc_new Wa _
  have hmlt : G.m < w.heap.size := ownMIS_lt h.mp
  have z5 := hb5.size
  have zA := fA.size
  have z9 := f9.size
  have hfr : Fr (fun k => k = G.m) w W9 := ((Fr.of_below (X := fun k => k = G.m) hb5).trans3 fB fun _ _ e => e.elim).trans3 f9 fun _ _ e => e
  have hqB : q < B := by have := q_lt hq5; omega
  have hto9 : CoTo base G C (K ++ [(id, newE B q f G.n1)]) T n w W9 := by
    have hnB : (newE B q f G.n1).B = B := rfl
    have hnq : (newE B q f G.n1).q = q := rfl
    refine h.newTo (e := newE B q f G.n1) hl ⟨by rw [hnB]; omega, by rw [hnB]; omega⟩ (by rw [hnq]; omega) (by rw [hnq, hnB]; omega) rfl (f9.blk kB (by omega)) ?_ (by rw [← hB]; exact ho9) hfr
    exact q_base (q_fr (q_fr hq5 fB (fun e => e) fun _ _ e => e) f9 (by omega) fun k e => by cases e) (by have := h.base_le; omega)
  obtain ⟨C9, h9, o9⟩ := hto9
  have h9d := h9.fr (Fr.refl (fun _ => False) W9).drew fun _ _ e => e
  have HS9 := Lib.hid h9d.puS
  obtain ⟨L, Q, A, u1, u2, u3⟩ := h9d.pul
  have hid2 : OkKI id := hid
  have hpj := pul_join u1 hid2 (now := 0) (by decide) (by omega)
  unfold StepG at hpj
  have HPu := Lib.hid hpj
  have e1 := len_delM_le Q id
  have e2 := len_setM_le L id (0 + G.n10)
  have HAf : Hid (∀ W, PulG base W G.PB G.n8 G.n9 G.n10 (setM L id (0 + G.n10)) (delM Q id) (delM A id) → Fr G.PB.X W9.drew W → CoTo base G C (K ++ [(id, newE B q f G.n1)]) T (n + 1) w W) := fun W hp hf =>
    CoTo.trans ⟨o9.1, o9.2.drew⟩ (h9d.pulTo hp (by omega) (by omega) hf)
  have HAS : Hid (∀ W, CoTo base G C (K ++ [(id, newE B q f G.n1)]) T (n + 1) w W → PuS G.c G.PB.p W) := fun W ⟨C1, h1, _⟩ => h1.puS
  clear h hg hn hid hid2 hl hK2 hb5 hq5 hq fA hB fB hsz f9 kB hmlt z5 zA z9 hfr hqB h9 o9 h9d u1 u2 u3 hpj e1 e2 hr9 ho9 hf9 hf
  go_upto_region 7 with fail
  refine wp_region_held_drew (S := PuS G.c G.PB.p) (by kernel_rfl) (by exact HS9.out) (fun hHeld => ?_)
  refine wpAnyH_read (i := 0) (oi := { dst := some 55, op := Go.Op.move (Go.Operand.tmp 0), type := 24, pos := "core.go:182", after := #[], guard := none }) ?_ rfl (by kernel_rfl) (by kernel_rfl) (by kernel_rfl) (fun _ _ _ h => h) (by rfl) (by assumption) ?_ ?_
  rotate_left
  · (intro w0 hS0; go_simp <;> (try with_reducible rfl))
  try simp only [Act.put, List.setIfInBounds_toArray, List.set_cons_zero, List.set_cons_succ]
  refine wpAnyH_read (i := 1) (oi := { dst := some 56, op := Go.Op.nilCheck (Go.Operand.tmp 55), type := 0, pos := "core.go:182", after := #[{ on := 0, ground := Go.Ground.data }], guard := none }) ?_ rfl (by kernel_rfl) (by kernel_rfl) (by kernel_rfl) (fun _ _ _ h => h) (by rfl) (by assumption) ?_ ?_
  rotate_left
  · (intro w0 hS0; go_simp <;> (try with_reducible rfl))
  try simp only [Act.put, List.setIfInBounds_toArray, List.set_cons_zero, List.set_cons_succ]
  refine wpAnyH_read (i := 2) (oi := { dst := some 57, op := Go.Op.fieldAddr 55 (Go.Operand.tmp 56) 8, type := 0, pos := "core.go:182", after := #[{ on := 1, ground := Go.Ground.data }], guard := none }) ?_ rfl (by kernel_rfl) (by kernel_rfl) (by kernel_rfl) (fun _ _ _ h => h) (by rfl) (by assumption) ?_ ?_
  rotate_left
  · (intro w0 hS0; go_simp <;> (try with_reducible rfl))
  try simp only [Act.put, List.setIfInBounds_toArray, List.set_cons_zero, List.set_cons_succ]
  refine wpAnyH_read (i := 4) (oi := { dst := some 59, op := Go.Op.move (Go.Operand.tmp 1), type := 3, pos := "core.go:182", after := #[], guard := none }) ?_ rfl (by kernel_rfl) (by kernel_rfl) (by kernel_rfl) (fun _ _ _ h => h) (by rfl) (by assumption) ?_ ?_
  rotate_left
  · (intro w0 hS0; go_simp <;> (try with_reducible rfl))
  try simp only [Act.put, List.setIfInBounds_toArray, List.set_cons_zero, List.set_cons_succ]
  refine wpAnyH_read (i := 5) (oi := { dst := some 60, op := Go.Op.move (Go.Operand.tmp 0), type := 24, pos := "core.go:182", after := #[], guard := none }) ?_ rfl (by kernel_rfl) (by kernel_rfl) (by kernel_rfl) (fun _ _ _ h => h) (by rfl) (by assumption) ?_ ?_
  rotate_left
  · (intro w0 hS0; go_simp <;> (try with_reducible rfl))
  try simp only [Act.put, List.setIfInBounds_toArray, List.set_cons_zero, List.set_cons_succ]
  refine wpAnyH_read (i := 6) (oi := { dst := some 61, op := Go.Op.nilCheck (Go.Operand.tmp 60), type := 0, pos := "core.go:182", after := #[{ on := 5, ground := Go.Ground.data }], guard := none }) ?_ rfl (by kernel_rfl) (by kernel_rfl) (by kernel_rfl) (fun _ _ _ h => h) (by rfl) (by assumption) ?_ ?_
  rotate_left
  · (intro w0 hS0; go_simp <;> (try with_reducible rfl))
  try simp only [Act.put, List.setIfInBounds_toArray, List.set_cons_zero, List.set_cons_succ]
  refine wpAnyH_read (i := 7) (oi := { dst := some 62, op := Go.Op.fieldAddr 55 (Go.Operand.tmp 61) 1, type := 0, pos := "core.go:182", after := #[{ on := 6, ground := Go.Ground.data }], guard := none }) ?_ rfl (by kernel_rfl) (by kernel_rfl) (by kernel_rfl) (fun _ _ _ h => h) (by rfl) (by assumption) ?_ ?_
  rotate_left
  · (intro w0 hS0; go_simp <;> (try with_reducible rfl))
  try simp only [Act.put, List.setIfInBounds_toArray, List.set_cons_zero, List.set_cons_succ]
  refine wpAnyH_read (i := 3) (oi := { dst := some 58, op := Go.Op.load 49 (Go.Operand.tmp 57), type := 49, pos := "core.go:182", after := #[{ on := 2, ground := Go.Ground.data }], guard := none }) ?_ rfl (by kernel_rfl) (by kernel_rfl) (by kernel_rfl) (fun _ _ _ h => h) (by rfl) (by assumption) ?_ ?_
  rotate_left
  · (intro w0 hS0; obtain ⟨s22, s15⟩ := hS0; (try clear hHeld); go_simp <;> (try with_reducible rfl))
  try simp only [Act.put, List.setIfInBounds_toArray, List.set_cons_zero, List.set_cons_succ]
  refine wpAnyH_read (i := 8) (oi := { dst := some 63, op := Go.Op.load 3 (Go.Operand.tmp 62), type := 3, pos := "core.go:182", after := #[{ on := 7, ground := Go.Ground.data }], guard := none }) ?_ rfl (by kernel_rfl) (by kernel_rfl) (by kernel_rfl) (fun _ _ _ h => h) (by rfl) (by assumption) ?_ ?_
  rotate_left
  · (intro w0 hS0; obtain ⟨s22, s15⟩ := hS0; (try clear hHeld); go_simp <;> (try with_reducible rfl))
  try simp only [Act.put, List.setIfInBounds_toArray, List.set_cons_zero, List.set_cons_succ]
  refine wpAnyH_one (i := 9) (o := { dst := some 64, op := Go.Op.call { callee := Go.Callee.value (Go.Operand.func 27), args := #[Go.Operand.tmp 58, Go.Operand.tmp 59, Go.Operand.tmp 63], argTypes := #[49, 3, 3] }, type := 0, pos := "core.go:182", after := #[{ on := 3, ground := Go.Ground.data }, { on := 4, ground := Go.Ground.data }, { on := 8, ground := Go.Ground.data }], guard := none }) (by kernel_rfl) rfl (by rfl) (fun K hK => ?_)
  clear hHeld
  go_simp
  refine (HPu.out).mono ?_
  rintro r1 W10 ⟨rfl, hp6, hf6⟩
  have HT10 := Lib.hid (HAf.out _ hp6 hf6)
  have HS10 := Lib.hid (HAS.out _ HT10.out)
  clear hp6 hf6
  refine hK.out _ _ ?_ (fun hHeld => ?_)
  · exact HS10.out
  clear hK K
  try simp only [Act.put, List.setIfInBounds_toArray, List.set_cons_zero, List.set_cons_succ]
  refine wpAnyH_done (by kernel_rfl) ?_ _
  go_wp2_with fail
  go_ret
  exact ⟨rfl, B, q, f, HT10.out⟩
end
end Go.Proofs.YtpbobonddocgkaaGreatDoor
end
section
/- Layer 23: Drain, of one who is live. -/
namespace Go.Proofs.YtpbobonddocgkaaGreatDoor
open Go Go.RowKit Go.Maps Go.Lib

section
variable {base : Nat} {w w' : World} {G : CoG} {C : Nat → CTag} {K : List (Int × CE)} {T : List (KeyB × Ent VI)} {n : Nat}
set_option maxRecDepth 100000 in
set_option maxHeartbeats 4000000 in
theorem bury_live (h : CoAt base G C K T n w) {id : Int} {e : CE} (hl : lookM K id = some e) (u : FrameMode) : CallsD Tryz.prog 42 #[.pointer (some ⟨G.c, 0, none⟩), .int .i64 id] u w fun r u' w' => u' = u ∧ (r = .returned (.tuple #[]) ∧ w' = w) := by
  have HT := there_any h (h.okK (lookM_memP hl))
  rw [hl] at HT
  have HT := Lib.hid HT
  have c1 : w.cell? ⟨e.B, 1, none⟩ = some (.bool true) := h.cellC hl 1
  clear h hl
  go_enter_d Tryz.func42, Tryz.ntmps42
  go_wp2_with fail
  refine HT.out.mono ?_
  rintro r w1 ⟨rfl, rfl⟩
  go_wp2_with fail
  go_end0
  exact ⟨rfl, rfl⟩
set_option maxRecDepth 100000 in
set_option maxHeartbeats 4000000 in
theorem drain_any (h : CoAt base G C K T n w) {id : Int} {e : CE} (hl : lookM K id = some e) (hws : e.s.ws.length ≤ 1000000) (hs0 : 0 ≤ e.s.sent) (hs1 : e.s.sent ≤ 1000000000000) (m : Int) :
    Calls Tryz.prog 14 #[.pointer (some ⟨G.c, 0, none⟩), .int .i64 id, .int .i64 m] w fun r w' => (∃ v, r = .returned v ∧ OwnB w.heap.size w' v (e.s.ws.take (goesQ e.s m))) ∧ CoTo base G C (updM K id { e with s := drainS e.s m }) T n w w' := by
  have HT := there_any h (h.okK (lookM_memP hl))
  rw [hl] at HT
  have HT := Lib.hid HT
  have c14 : w.cell? ⟨e.B, 14, none⟩ = some (.pointer (some ⟨e.q, 0, none⟩)) := h.cellC hl 14
  have HD := q_drain (h.queue _ (lookM_memP hl)) hws hs0 hs1 m
  dsimp only at HD
  have HD := Lib.hid HD
  have H := Lib.hid (And.intro h hl)
  clear h hl hws hs0 hs1
  go_enter_defers Tryz.func14, Tryz.ntmps14
  go_wp2_with fail
  refine HT.out.mono ?_
  rintro r w1 ⟨rfl, rfl⟩
  go_wp2_with fail
  refine HD.out.mono ?_
  rintro r w2 ⟨⟨v, rfl, hv⟩, hq, hf⟩
  obtain ⟨h, hl⟩ := H.out
  have hto := h.qTo hl hq (fun k hk _ => hk) hf
  have HV := Lib.hid hv
  obtain ⟨C2, h2, o2⟩ := hto
  have hl2 : lookM (updM K id { e with ob := e.ob, s := drainS e.s m }) id = some { e with ob := e.ob, s := drainS e.s m } := by rw [look_updM hl, if_pos rfl]
  have HB := Lib.hid (fun u => bury_live h2 hl2 u)
  have HT2 := Lib.hid (And.intro h2 o2)
  clear h hl hq hf hv h2 o2 hl2 HD HT c14
  go_wp2_with fail
  refine leaves_cons (f := 42) (args := #[.pointer (some ⟨G.c, 0, none⟩), .int .i64 id]) (by simp) (by simp [go_sem]) ?_
  refine (HB.out .returning).mono ?_
  rintro r u' w3 ⟨rfl, rfl, rfl⟩
  refine ⟨_, results_tmp rfl _ _ _, ⟨v, rfl, HV.out⟩, C2, HT2.out.1, HT2.out.2⟩
end
end Go.Proofs.YtpbobonddocgkaaGreatDoor
end
section
/- Layer 23: SetSign. -/
namespace Go.Proofs.YtpbobonddocgkaaGreatDoor
open Go Go.RowKit Go.Maps Go.Lib Go.Sort Go.Shelf

/-- cells of a connection that SetSign keeps -/
def SsS (B : Nat) (nick : List UInt8) (done : Bool) (W : World) : Prop := W.cell? ⟨B, 5, none⟩ = some (.string (bs nick)) ∧ W.cell? ⟨B, 8, none⟩ = some (.bool done)
section
variable {base : Nat} {w w' : World} {G : CoG} {C : Nat → CTag} {K : List (Int × CE)} {T : List (KeyB × Ent VI)} {n : Nat}
set_option maxRecDepth 100000 in
set_option maxHeartbeats 16000000 in
theorem setSign_u (h : CoAt base G C K T n w) {id : Int} {e : CE} (hl : lookM K id = some e) : Calls Tryz.prog 9 #[.pointer (some ⟨G.c, 0, none⟩), .int .i64 id, .agg #[.int .i64 0, .bool false, .string ⟨#[]⟩, .string ⟨#[]⟩, .string (bs [117]), .string ⟨#[]⟩, .bool false]] w
    fun r w' => r = .returned (.tuple #[]) ∧ CoTo base G C (updM K id { e with user := [117] }) T n w w' := by
  obtain ⟨N, hN⟩ : ∃ N, w.heap.size = N := ⟨_, rfl⟩
  obtain ⟨w1, hw1⟩ : ∃ w1, w.alloc (Obj.cells #[.int .i64 0, .bool false, .string ⟨#[]⟩, .string ⟨#[]⟩, .string (bs [117]), .string ⟨#[]⟩, .bool false] 34) = w1 := ⟨_, rfl⟩
  have f1 : Fr (fun _ => False) w w1 := by rw [← hw1]; exact (Fr.refl _ w).alloc _
  have k1 : w1.heap[N]? = some (.cells #[.int .i64 0, .bool false, .string ⟨#[]⟩, .string ⟨#[]⟩, .string (bs [117]), .string ⟨#[]⟩, .bool false] 34 (0, 0)) := by rw [← hw1, ← hN]; exact heap_alloc_new w _
  have h1 := h.fr f1 fun _ _ e => e
  have hBN : e.B < N := by have : e.B < w.heap.size := blk_lt (h.conn _ (lookM_memP hl)); omega
  have hNB : e.B ≠ N := by omega
  have HL := Lib.hid (live_some h1 hl)
  have hS0 : SsS e.B e.nick e.done w1.drew := ⟨h1.cellC hl 5, h1.cellC hl 8⟩
  have hX : w1.heap[N]? = some (.cells #[.int .i64 0, .bool false, .string ⟨#[]⟩, .string ⟨#[]⟩, .string (bs [117]), .string ⟨#[]⟩, .bool false] 34 (0, 0)) := k1
  have hF : Fr (fun k => k = N) w1 w1 := Fr.refl _ w1
  have hCN : C N = ctag0 := h.cN N (by omega)
  have H := Lib.hid (And.intro f1 (And.intro h1 (And.intro hl hCN)))
  have HW := Lib.hid (And.intro hw1 hN)
  have HX0 := Lib.hid (And.intro hS0 (And.intro hX hF))
  clear h hl h1 hN hw1 f1 k1 hS0 hX hF
  go_enter Tryz.func9, Tryz.ntmps9
  go_wp2_with fail
  rw [HW.out.1]
  rw [HW.out.2]
  refine HL.out.mono ?_
  rintro r w2 ⟨rfl, rfl⟩
  go_upto_region 3 with fail
  obtain ⟨hS0, hX, hF⟩ := HX0.out
  have q0 := blk_cell hX 0; have q1 := blk_cell hX 1; have q2 := blk_cell hX 2; have q3 := blk_cell hX 3; have q4 := blk_cell hX 4; have q5 := blk_cell hX 5; have q6 := blk_cell hX 6; have f3 := blk_free hX 3; have f6 := blk_free hX 6
  refine wp_region_held_drew (S := SsS e.B e.nick e.done) (by kernel_rfl) (by exact hS0) (fun hHeld => ?_)
  refine wpAnyH_read (i := 0) (oi := { dst := some 12, op := Go.Op.move (Go.Operand.tmp 6), type := 66, pos := "core.go:205", after := #[], guard := none }) ?_ rfl (by kernel_rfl) (by kernel_rfl) (by kernel_rfl) (fun _ _ _ h => h) (by rfl) (by exact hHeld) ?_ ?_
  rotate_left
  · (intro w0 hS0; go_simp <;> (try with_reducible rfl))
  try simp only [Act.put, List.setIfInBounds_toArray, List.set_cons_zero, List.set_cons_succ]
  refine wpAnyH_read (i := 1) (oi := { dst := some 13, op := Go.Op.nilCheck (Go.Operand.tmp 12), type := 0, pos := "core.go:205", after := #[{ on := 0, ground := Go.Ground.data }], guard := none }) ?_ rfl (by kernel_rfl) (by kernel_rfl) (by kernel_rfl) (fun _ _ _ h => h) (by rfl) (by exact hHeld) ?_ ?_
  rotate_left
  · (intro w0 hS0; go_simp <;> (try with_reducible rfl))
  try simp only [Act.put, List.setIfInBounds_toArray, List.set_cons_zero, List.set_cons_succ]
  refine wpAnyH_read (i := 2) (oi := { dst := some 14, op := Go.Op.fieldAddr 72 (Go.Operand.tmp 13) 2, type := 0, pos := "core.go:205", after := #[{ on := 1, ground := Go.Ground.data }], guard := none }) ?_ rfl (by kernel_rfl) (by kernel_rfl) (by kernel_rfl) (fun _ _ _ h => h) (by rfl) (by exact hHeld) ?_ ?_
  rotate_left
  · (intro w0 hS0; go_simp <;> (try with_reducible rfl))
  try simp only [Act.put, List.setIfInBounds_toArray, List.set_cons_zero, List.set_cons_succ]
  refine wpAnyH_read (i := 3) (oi := { dst := some 15, op := Go.Op.fieldAddr 34 (Go.Operand.tmp 14) 3, type := 0, pos := "core.go:205", after := #[{ on := 2, ground := Go.Ground.data }], guard := none }) ?_ rfl (by kernel_rfl) (by kernel_rfl) (by kernel_rfl) (fun _ _ _ h => h) (by rfl) (by exact hHeld) ?_ ?_
  rotate_left
  · (intro w0 hS0; go_simp <;> (try with_reducible rfl))
  try simp only [Act.put, List.setIfInBounds_toArray, List.set_cons_zero, List.set_cons_succ]
  refine wpAnyH_read (i := 5) (oi := { dst := some 17, op := Go.Op.move (Go.Operand.tmp 6), type := 66, pos := "core.go:205", after := #[{ on := 11, ground := Go.Ground.gcOnly Go.Departure.lateStores }], guard := none }) ?_ rfl (by kernel_rfl) (by kernel_rfl) (by kernel_rfl) (fun _ _ _ h => h) (by rfl) (by exact hHeld) ?_ ?_
  rotate_left
  · (intro w0 hS0; go_simp <;> (try with_reducible rfl))
  try simp only [Act.put, List.setIfInBounds_toArray, List.set_cons_zero, List.set_cons_succ]
  refine wpAnyH_read (i := 6) (oi := { dst := some 18, op := Go.Op.nilCheck (Go.Operand.tmp 17), type := 0, pos := "core.go:205", after := #[{ on := 5, ground := Go.Ground.data }, { on := 11, ground := Go.Ground.gcOnly Go.Departure.lateStores }], guard := none }) ?_ rfl (by kernel_rfl) (by kernel_rfl) (by kernel_rfl) (fun _ _ _ h => h) (by rfl) (by exact hHeld) ?_ ?_
  rotate_left
  · (intro w0 hS0; go_simp <;> (try with_reducible rfl))
  try simp only [Act.put, List.setIfInBounds_toArray, List.set_cons_zero, List.set_cons_succ]
  refine wpAnyH_read (i := 7) (oi := { dst := some 19, op := Go.Op.fieldAddr 72 (Go.Operand.tmp 18) 2, type := 0, pos := "core.go:205", after := #[{ on := 6, ground := Go.Ground.data }, { on := 11, ground := Go.Ground.gcOnly Go.Departure.lateStores }], guard := none }) ?_ rfl (by kernel_rfl) (by kernel_rfl) (by kernel_rfl) (fun _ _ _ h => h) (by rfl) (by exact hHeld) ?_ ?_
  rotate_left
  · (intro w0 hS0; go_simp <;> (try with_reducible rfl))
  try simp only [Act.put, List.setIfInBounds_toArray, List.set_cons_zero, List.set_cons_succ]
  refine wpAnyH_read (i := 8) (oi := { dst := some 20, op := Go.Op.fieldAddr 34 (Go.Operand.tmp 19) 6, type := 0, pos := "core.go:205", after := #[{ on := 7, ground := Go.Ground.data }, { on := 11, ground := Go.Ground.gcOnly Go.Departure.lateStores }], guard := none }) ?_ rfl (by kernel_rfl) (by kernel_rfl) (by kernel_rfl) (fun _ _ _ h => h) (by rfl) (by exact hHeld) ?_ ?_
  rotate_left
  · (intro w0 hS0; go_simp <;> (try with_reducible rfl))
  try simp only [Act.put, List.setIfInBounds_toArray, List.set_cons_zero, List.set_cons_succ]
  refine wpAnyH_read (i := 4) (oi := { dst := some 16, op := Go.Op.load 9 (Go.Operand.tmp 15), type := 9, pos := "core.go:205", after := #[{ on := 3, ground := Go.Ground.data }], guard := none }) ?_ rfl (by kernel_rfl) (by kernel_rfl) (by kernel_rfl) (fun _ _ _ h => h) (by rfl) (by exact hHeld) ?_ ?_
  rotate_left
  · (intro w0 hS0; obtain ⟨s5, s8⟩ := hS0; (try clear hHeld); go_simp <;> (try with_reducible rfl))
  try simp only [Act.put, List.setIfInBounds_toArray, List.set_cons_zero, List.set_cons_succ]
  refine wpAnyH_read (i := 10) (oi := { dst := some 22, op := Go.Op.fieldAddr 34 (Go.Operand.tmp 5) 3, type := 0, pos := "core.go:205", after := #[{ on := 0, ground := Go.Ground.phase }, { on := 1, ground := Go.Ground.phase }, { on := 2, ground := Go.Ground.phase }, { on := 3, ground := Go.Ground.phase }, { on := 4, ground := Go.Ground.phase }, { on := 5, ground := Go.Ground.textOnly Go.Departure.lateStores }, { on := 6, ground := Go.Ground.textOnly Go.Departure.lateStores }, { on := 7, ground := Go.Ground.textOnly Go.Departure.lateStores }, { on := 8, ground := Go.Ground.textOnly Go.Departure.lateStores }, { on := 9, ground := Go.Ground.textOnly Go.Departure.lateStores }], guard := none }) ?_ rfl (by kernel_rfl) (by kernel_rfl) (by kernel_rfl) (fun _ _ _ h => h) (by rfl) (by exact hHeld) ?_ ?_
  rotate_left
  · (intro w0 hS0; go_simp <;> (try with_reducible rfl))
  try simp only [Act.put, List.setIfInBounds_toArray, List.set_cons_zero, List.set_cons_succ]
  refine wpAnyH_read (i := 9) (oi := { dst := some 21, op := Go.Op.load 4 (Go.Operand.tmp 20), type := 4, pos := "core.go:205", after := #[{ on := 8, ground := Go.Ground.data }, { on := 11, ground := Go.Ground.gcOnly Go.Departure.lateStores }], guard := none }) ?_ rfl (by kernel_rfl) (by kernel_rfl) (by kernel_rfl) (fun _ _ _ h => h) (by rfl) (by exact hHeld) ?_ ?_
  rotate_left
  · (intro w0 hS0; obtain ⟨s5, s8⟩ := hS0; (try clear hHeld); go_simp <;> (try with_reducible rfl))
  try simp only [Act.put, List.setIfInBounds_toArray, List.set_cons_zero, List.set_cons_succ]
  refine wpAnyH_one (i := 11) (o := { dst := none, op := Go.Op.store 9 (Go.Operand.tmp 22) (Go.Operand.tmp 16), type := 0, pos := "core.go:205", after := #[{ on := 10, ground := Go.Ground.data }, { on := 4, ground := Go.Ground.data }, { on := 0, ground := Go.Ground.phase }, { on := 1, ground := Go.Ground.phase }, { on := 2, ground := Go.Ground.phase }, { on := 3, ground := Go.Ground.phase }, { on := 4, ground := Go.Ground.phase }, { on := 5, ground := Go.Ground.textOnly Go.Departure.lateStores }, { on := 6, ground := Go.Ground.textOnly Go.Departure.lateStores }, { on := 7, ground := Go.Ground.textOnly Go.Departure.lateStores }, { on := 8, ground := Go.Ground.textOnly Go.Departure.lateStores }, { on := 9, ground := Go.Ground.textOnly Go.Departure.lateStores }], guard := none }) (by kernel_rfl) rfl (by rfl) (fun K hK => ?_)
  clear hHeld
  go_simp
  refine hK.out _ _ ?_ (fun hHeld => ?_)
  · exact ⟨(World.cell?_setCell_other _ _ _ _ (by first | (simp; done) | (simp; omega))).trans hS0.1, (World.cell?_setCell_other _ _ _ _ (by first | (simp; done) | (simp; omega))).trans hS0.2⟩
  clear hK K
  try simp only [Act.put, List.setIfInBounds_toArray, List.set_cons_zero, List.set_cons_succ]
  have hS0 := hHeld
  have hX := blk_set hX 3 (.string (bs e.nick))
  have hF := hF.setCell ⟨N, 3, none⟩ rfl (.string (bs e.nick))
  clear q0 q1 q2 q3 q4 q5 q6 f3 f6
  have q0 := blk_cell hX 0; have q1 := blk_cell hX 1; have q2 := blk_cell hX 2; have q3 := blk_cell hX 3; have q4 := blk_cell hX 4; have q5 := blk_cell hX 5; have q6 := blk_cell hX 6; have f3 := blk_free hX 3; have f6 := blk_free hX 6
  refine wpAnyH_read (i := 12) (oi := { dst := some 23, op := Go.Op.fieldAddr 34 (Go.Operand.tmp 5) 6, type := 0, pos := "core.go:205", after := #[{ on := 0, ground := Go.Ground.phase }, { on := 1, ground := Go.Ground.phase }, { on := 2, ground := Go.Ground.phase }, { on := 3, ground := Go.Ground.phase }, { on := 4, ground := Go.Ground.phase }, { on := 5, ground := Go.Ground.phase }, { on := 6, ground := Go.Ground.phase }, { on := 7, ground := Go.Ground.phase }, { on := 8, ground := Go.Ground.phase }, { on := 9, ground := Go.Ground.phase }, { on := 10, ground := Go.Ground.phase }, { on := 11, ground := Go.Ground.phase }], guard := none }) ?_ rfl (by kernel_rfl) (by kernel_rfl) (by kernel_rfl) (fun _ _ _ h => h) (by rfl) (by exact hHeld) ?_ ?_
  rotate_left
  · (intro w0 hS0; go_simp <;> (try with_reducible rfl))
  try simp only [Act.put, List.setIfInBounds_toArray, List.set_cons_zero, List.set_cons_succ]
  refine wpAnyH_one (i := 13) (o := { dst := none, op := Go.Op.store 4 (Go.Operand.tmp 23) (Go.Operand.tmp 21), type := 0, pos := "core.go:205", after := #[{ on := 12, ground := Go.Ground.data }, { on := 9, ground := Go.Ground.data }, { on := 11, ground := Go.Ground.chain }, { on := 0, ground := Go.Ground.phase }, { on := 1, ground := Go.Ground.phase }, { on := 2, ground := Go.Ground.phase }, { on := 3, ground := Go.Ground.phase }, { on := 4, ground := Go.Ground.phase }, { on := 5, ground := Go.Ground.phase }, { on := 6, ground := Go.Ground.phase }, { on := 7, ground := Go.Ground.phase }, { on := 8, ground := Go.Ground.phase }, { on := 9, ground := Go.Ground.phase }, { on := 10, ground := Go.Ground.phase }, { on := 11, ground := Go.Ground.phase }], guard := none }) (by kernel_rfl) rfl (by rfl) (fun K hK => ?_)
  clear hHeld
  go_simp
  refine hK.out _ _ ?_ (fun hHeld => ?_)
  · exact ⟨(World.cell?_setCell_other _ _ _ _ (by first | (simp; done) | (simp; omega))).trans hS0.1, (World.cell?_setCell_other _ _ _ _ (by first | (simp; done) | (simp; omega))).trans hS0.2⟩
  clear hK K
  try simp only [Act.put, List.setIfInBounds_toArray, List.set_cons_zero, List.set_cons_succ]
  have hX := blk_set hX 6 (.bool e.done)
  have hF := hF.setCell ⟨N, 6, none⟩ rfl (.bool e.done)
  clear q0 q1 q2 q3 q4 q5 q6 f3 f6
  refine wpAnyH_done (by kernel_rfl) ?_ _
  have hBq := hF.blk (H.out.2.1.conn _ (lookM_memP H.out.2.2.1)) hNB
  have hBq : _ = some (Obj.cells (connC e) 72 (0, 0)) := hBq
  have p2 := blk_cell hBq 2
  have p3 := blk_cell hBq 3
  have p4 := blk_cell hBq 4
  have p5 := blk_cell hBq 5
  have p6 := blk_cell hBq 6
  have p7 := blk_cell hBq 7
  have p8 := blk_cell hBq 8
  have g2 := blk_free hBq 2
  have g3 := blk_free hBq 3
  have g4 := blk_free hBq 4
  have g5 := blk_free hBq 5
  have g6 := blk_free hBq 6
  have g7 := blk_free hBq 7
  have g8 := blk_free hBq 8
  have q0 := blk_cell hX 0
  have q1 := blk_cell hX 1
  have q2 := blk_cell hX 2
  have q3 := blk_cell hX 3
  have q4 := blk_cell hX 4
  have q5 := blk_cell hX 5
  have q6 := blk_cell hX 6
  have HY := Lib.hid (And.intro hBq hF)
  clear hBq hF hX hS0
  unfold connC at p2 p3 p4 p5 p6 p7 p8
  go_wp2_with fail
  first | go_end0 | refine bodyPost_ret (results_none rfl _ _ _) rfl ?_
  obtain ⟨f1, h1, hl, hCN⟩ := H.out
  obtain ⟨hBq, hF⟩ := HY.out
  have h3 := h1.fr hF fun k hk e => hk (by rw [show k = N from e]; exact hCN)
  have hb := blk_drew (blk_set (blk_set (blk_set (blk_set (blk_set (blk_set (blk_set hBq 2 (.int .i64 0)) 3 (.bool false)) 4 (.string ⟨#[]⟩)) 5 (.string (bs e.nick))) 6 (.string (bs [117]))) 7 (.string ⟨#[]⟩)) 8 (.bool e.done))
  refine ⟨rfl, CoTo.trans ⟨fun _ _ => rfl, (f1.trans3 hF fun k hk e => by have := HW.out.2; omega).mono fun _ _ e => e.elim⟩ (h3.connTo hl (e' := { e with user := [117] }) rfl rfl rfl rfl hb (by exact (Fr.setCell (Fr.setCell (Fr.setCell (Fr.setCell (Fr.setCell (Fr.setCell (Fr.setCell (Fr.refl (fun k => k = e.B) _) ⟨e.B, 2, none⟩ rfl (.int .i64 0)) ⟨e.B, 3, none⟩ rfl (.bool false)) ⟨e.B, 4, none⟩ rfl (.string ⟨#[]⟩)) ⟨e.B, 5, none⟩ rfl (.string (bs e.nick))) ⟨e.B, 6, none⟩ rfl (.string (bs [117]))) ⟨e.B, 7, none⟩ rfl (.string ⟨#[]⟩)) ⟨e.B, 8, none⟩ rfl (.bool e.done)).drew))⟩
end
end Go.Proofs.YtpbobonddocgkaaGreatDoor
end
section
/- Layer 23: the law's awake. -/
namespace Go.Proofs.YtpbobonddocgkaaGreatDoor
open Go Go.RowKit Go.Maps Go.Lib Go.Sort Go.Shelf

theorem okK1 : OkKIS 1 := by unfold OkKIS; decide
theorem takes_hi : Takes ⟨512, [], 0, false, false⟩ [104, 105] := ⟨rfl, by decide, by decide, by decide, by decide, by decide⟩
theorem globB_new {w w1 : World} (h : Glob23 w) (hb : RowKit.Below w.heap.size w w1) : GlobB w.heap.size w1 := ⟨w, h, Nat.le_refl _, hb⟩
set_option maxRecDepth 100000 in
set_option maxHeartbeats 16000000 in
theorem awake23 (w : World) (hg : Glob23 w) : Calls Tryz.prog 4 #[] w fun e w' => e = .returned (.bool true) ∧ Below w.heap.size w w' := by
  have HN := Lib.hid (core_new (n0 := 1) (n1 := 512) (n2 := 1) (n3 := 1) (n4 := 1) (n5 := 1) (n6 := 1) (n8 := 1) (n9 := 1) (n10 := 1) (by decide) (by decide) (by decide) (by decide) (by decide) (by decide) (by decide) w hg.1)
  have HG := Lib.hid hg
  clear hg
  go_enter Tryz.func4, Tryz.ntmps4
  go_wp2_with fail
  refine HN.out.mono ?_
  rintro e w1 ⟨G, C, rfl, h1, b1, g0, g1, g6, gU⟩
  have HG1 := Lib.hid (globB_new HG.out b1)
  have HC := connect_any h1 HG1.out (by decide) (id := 1) okK1 rfl (by decide) (by rw [g0]; decide) (by decide) (by rw [g1]; decide)
  rw [g1] at HC
  have HC := Lib.hid HC
  have H1 := Lib.hid (And.intro h1 b1)
  clear h1 b1 HN g0 g1 g6 gU
  go_wp2_with fail
  refine HC.out.mono ?_
  rintro e w2 ⟨rfl, B, q, f, C2, h2, o2⟩
  obtain ⟨h1, b1⟩ := H1.out
  have hl2 : lookM ([] ++ [((1 : Int), newE B q f 512)]) 1 = some (newE B q f 512) := rfl
  obtain ⟨w2a, hw2a⟩ : ∃ V, w2.alloc (Obj.cells #[.string ⟨#[104, 105]⟩] 9) = V := ⟨_, rfl⟩
  have fa : Fr (fun _ => False) w2 w2a := by rw [← hw2a]; exact (Fr.refl _ w2).alloc _
  have h2a := h2.fr fa fun _ _ e => e
  have HT := Lib.hid (tell_one h2a hl2 (line := [104, 105]) (A := some ⟨w2.heap.size, 0, none⟩) (cc := 1) (reads_one (by rw [← hw2a]; exact heap_alloc_new w2 _)) takes_hi)
  have H2 := Lib.hid (And.intro h2 (And.intro o2 (And.intro fa h2a)))
  have HW2 := Lib.hid hw2a
  clear h1 b1 h2 o2 hl2 fa h2a hw2a HC
  go_wp2_with fail
  rw [HW2.out]
  refine HT.out.mono ?_
  rintro e w3 ⟨rfl, ob, C3, h3, o3⟩
  have hl3 : lookM (updM ([] ++ [((1 : Int), newE B q f 512)]) 1 (pushed (newE B q f 512) [104, 105] ob)) 1 = some (pushed (newE B q f 512) [104, 105] ob) := rfl
  have HD := Lib.hid (drain_any h3 hl3 (show 4 ≤ 1000000 by decide) (show (0 : Int) ≤ 0 by decide) (show (0 : Int) ≤ 1000000000000 by decide) 9)
  have H3 := Lib.hid (And.intro h3 o3)
  clear h3 o3 hl3 HT HW2
  go_wp2_with fail
  refine HD.out.mono ?_
  rintro e w4 ⟨⟨v, rfl, hv⟩, C4, h4, o4⟩
  have hcv := conv_ownB hv
  have ht : List.take (goesQ (pushed (newE B q f 512) [104, 105] ob).s 9) (pushed (newE B q f 512) [104, 105] ob).s.ws = [104, 105, 13, 10] := rfl
  rw [ht] at hcv
  have hbb : bs [104, 105, 13, 10] = (⟨#[104, 105, 13, 10]⟩ : ByteArray) := rfl
  rw [hbb] at hcv
  have HL := Lib.hid (live_yes h4 (id := 1) (e := { pushed (newE B q f 512) [104, 105] ob with s := drainS (pushed (newE B q f 512) [104, 105] ob).s 9 }) rfl)
  have H4 := Lib.hid (And.intro h4 o4)
  clear h4 o4 hv ht HD hbb
  go_wp2_with fail
  refine HL.out.mono ?_
  rintro e w5 ⟨rfl, rfl⟩
  go_wp2_with fail
  go_ret
  obtain ⟨h1, b1⟩ := H1.out
  obtain ⟨h2, o2, fa, h2a⟩ := H2.out
  obtain ⟨h3, o3⟩ := H3.out
  obtain ⟨h4, o4⟩ := H4.out
  refine ⟨rfl, ?_⟩
  have c1 := b1.trans (h1.up o2)
  have c2 := c1.trans (fa.below h2.base_le fun _ _ e => e.elim)
  have c3 := c2.trans (h2a.up o3)
  exact c3.trans (h3.up o4)
end Go.Proofs.YtpbobonddocgkaaGreatDoor
end
