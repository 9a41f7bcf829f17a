/- Layer 10: what tells a row of numbers, as a function that ranges: slices.Values; All. -/
import Derived.Test.YteiiaocohpbanaaSetF
import Derived.Test.YteiiaocohpbanaaRangeT
import Derived.Sort.LoopGhostIn
namespace Go.Proofs.Yteiiaocohpbanaa
set_option linter.unusedVariables false
set_option linter.unusedSimpArgs false
open Go Go.RowKit Go.Lib Go.Sort Go.Shelf

def encI (x : Int) : Array Value := #[.int .i64 x]
/-- the blocks of a tale -/
def rowY (B : Nat) (v : Value) : Nat → Prop := fun b => b = B ∨ v.ownBlock = some b
set_option maxRecDepth 100000 in
set_option maxHeartbeats 4000000 in
theorem values_tells (n : Nat) (hn : 2 ≤ n) (base B : Nat) (v : Value) (xs : List Int) (w : World) (hxs : xs.length ≤ 1000000) (hb : w.heap[B]? = some (.cells #[v] 26 (0, 0))) (hr : OwnI base w v xs) :
    SeqT Fence.wide n Try.prog 33 #[.pointer (some ⟨B, 0, none⟩)] encI (fun _ => False) (rowY B v) xs w := fun l J Jx V hV hJ hJx hY h0 => by
  have hbV := (hV.block B (blk_lt hb)).trans hb
  have c0 : V.cell? ⟨B, 0, none⟩ = some v := (blk_cell hbV 0).trans rfl
  have hrV : OwnI base V v xs := own_kept hr fun g hg => hV.block g (hr.lt g hg).2
  obtain ⟨A, c, rfl⟩ := row_slice hr
  have HR := Lib.hid hrV
  have HB := Lib.hid hbV
  have HY := Lib.hid hY
  have HJ := Lib.hid hJ
  have HJx := Lib.hid hJx
  clear hb hr hV hrV hbV hY hJ hJx
  refine callsIn_of_wp Try.func33 rfl trivial ?_ rfl
  simp only [Try.ntmps33, List.size_toArray, List.length_cons, List.length_nil, Nat.reduceAdd, Nat.reduceSub, Array.replicate_succ, Array.replicate_zero, List.push_toArray, List.append_toArray, List.nil_append, List.cons_append]
  gi_wp2
  gi_loopw [7] (fun c1 wr => ∃ k : Nat, c1 = .int .i64 k ∧ k ≤ xs.length ∧ Hid (SameX (rowY B (.slice A xs.length c)) V wr) ∧ Hid (J (xs.take k) wr)) (fun c1 _ => xs.length - (intOf c1).toNat)
  case atStart => exact ⟨0, rfl, Nat.zero_le _, fun _ _ => rfl, h0⟩
  case round =>
    obtain ⟨k, rfl, hk, HS, HJk⟩ := hrel
    by_cases hlt : k < xs.length
    · obtain ⟨g, cap, cur, hAs, hg2, ht⟩ : ∃ g cap cur, Value.slice A xs.length c = .slice (some ⟨g, 0, none⟩) xs.length cap ∧ V.heap[g]? = some (.cells cur 3 (0, 0)) ∧ cur.toList.take xs.length = xs.map (Value.int .i64) := by
        rcases HR.out.2 with ⟨h1, h2⟩ | ⟨g, cap, cur, h1, _, h3, _, _, _, h6⟩
        · omega
        · rw [Nat.mul_one] at h6; exact ⟨g, cap, cur, h1, h3, h6⟩
      cases hAs
      obtain ⟨x, hx⟩ : ∃ x, xs[k] = x := ⟨_, rfl⟩
      have e0 : wr.cell? ⟨g, k, none⟩ = some (.int .i64 x) := by
        rw [HS.out.cell (b := g) (o := k) (.inr rfl), blk_cell hg2, own_get (base := 0) (w := V) (cap := 0) hg2 ht k hlt, hx]
      have hsp : xs.take k ++ x :: xs.drop (k + 1) = xs := by rw [← hx, ← List.drop_eq_getElem_cons hlt]; exact List.take_append_drop k xs
      have htk : xs.take (k + 1) = xs.take k ++ [x] := by rw [List.take_succ_eq_append_getElem hlt, hx]
      have HT := Lib.hid htk
      have HSP := Lib.hid hsp
      have hyy := HY.out (xs.take k) x (xs.drop (k + 1)) wr hsp HJk.out
      obtain ⟨fn, tmps, assign, body, hy, hR⟩ := hyy
      dsimp only [encI] at hy
      clear hx htk hsp hg2 ht
      gi_wp2_with fail
      refine ⟨fun _ => by omega, hR.mono ?_⟩
      rintro e W3 (⟨rfl, hJ3, hK3⟩ | ⟨rfl, hJx3⟩)
      · have hS3 : Hid (SameX (rowY B (.slice (some ⟨g, 0, none⟩) xs.length c)) V W3) := HS.out.trans hK3
        rw [← HT.out] at hJ3
        have HJ3 := Lib.hid hJ3
        clear hJ3 hK3 hR hy
        gi_wp2_with fail
        go_roundw
        case rel => exact ⟨k + 1, by go_num, by omega, hS3, HJ3⟩
        case measure => simp [intOf]; omega
      · clear hR hy
        gi_wp2_with fail
        refine bodyPost_ret (results_none rfl _ _ _) rfl ?_
        exact ⟨⟨_, rfl⟩, .inr ⟨_, xs.drop (k + 1), by simpa using HSP.out, hJx3⟩⟩
    · obtain rfl : k = xs.length := by omega
      gi_wp2_with fail
      go_end0
      have hj := HJk.out
      rw [List.take_length] at hj
      exact ⟨⟨_, rfl⟩, .inl hj⟩

/-- a tale of numbers, handed back -/
def ValsP (v : Value) (w : World) (e : Ending) (w' : World) : Prop :=
  e = .returned (.func (.func 33) #[] #[.pointer (some ⟨w.heap.size, 0, none⟩)]) ∧ w'.heap[w.heap.size]? = some (.cells #[v] 26 (0, 0)) ∧ Below w.heap.size w w'
theorem values_calls (A : Option Addr) (l c : Nat) (w : World) : Calls Try.prog 24 #[.slice A l c] w (ValsP (.slice A l c) w) := by
  go_enter Try.func24, Try.ntmps24
  go_wp2_with fail
  go_ret
  exact ⟨rfl, heap_alloc_new _ _, (Below.refl _ _).alloc (Nat.le_refl _) _⟩
/-- what tells xs: a tale, its box, the value in it -/
def TaleAt (base : Nat) (w : World) (F : Value) (xs : List Int) : Prop := ∃ B v, base ≤ B ∧ F = .func (.func 33) #[] #[.pointer (some ⟨B, 0, none⟩)] ∧ w.heap[B]? = some (.cells #[v] 26 (0, 0)) ∧ v.ownBlock ≠ some B ∧ OwnI base w v xs
theorem tale_below {base : Nat} {w W : World} {F : Value} {xs : List Int} (h : TaleAt base w F xs) {n : Nat} (hb : Below n w W) (hn : w.heap.size ≤ n) : TaleAt base W F xs := by
  obtain ⟨B, v, h0, h1, h2, h3, h4⟩ := h
  exact ⟨B, v, h0, h1, (hb.block _ (Nat.lt_of_lt_of_le (blk_lt h2) hn)).trans h2, h3, own_kept h4 fun g hg => hb.block g (Nat.lt_of_lt_of_le (h4.lt g hg).2 hn)⟩
def AllP (xs : List Int) (w : World) (e : Ending) (w' : World) : Prop := (∃ F, e = .returned F ∧ TaleAt w.heap.size w' F xs) ∧ Below w.heap.size w w'
theorem all_of {xs : List Int} {w w1 w2 : World} {v : Value} {e : Ending} (h1 : OwnI w.heap.size w1 v xs) (h2 : Below w.heap.size w w1) (h3 : ValsP v w1 e w2) : AllP xs w e w2 := by
  obtain ⟨rfl, a, b⟩ := h3
  refine ⟨⟨_, rfl, _, v, h2.size, rfl, a, fun e => ?_, own_kept h1 fun g hg => b.block g (h1.lt g hg).2⟩, h2.trans (b.mono h2.size)⟩
  have := (h1.lt _ e).2
  omega
theorem own_nil (base : Nat) (w : World) : OwnI base w (.slice none 0 0) [] := World.ownsRow_nil _ _ _ _
theorem set_all_nil (w : World) : Calls Try.prog 13 #[.pointer none] w (AllP [] w) := by
  have h1 := set_list_nil w
  have h2 := values_calls none 0 0 w
  go_enter Try.func13, Try.ntmps13
  go_wp2_with fail
  refine h1.mono ?_
  rintro e w1 ⟨rfl, rfl⟩
  go_wp2_with fail
  refine h2.mono ?_
  intro e w2 h
  have hx := all_of (own_nil _ _) (Below.refl _ _) h
  obtain ⟨⟨F, rfl, h4⟩, h5⟩ := hx
  have H := Lib.hid (And.intro h4 h5)
  clear h h4 h5
  go_wp2_with fail
  go_ret
  exact ⟨⟨_, rfl, H.out.1⟩, H.out.2⟩
theorem set_all {base : Nat} {w : World} {s : Nat} {ob : Option Nat} {xs : List Int} (h : SetAt base w s ob xs) (hl : xs.length ≤ 1000000) :
    Calls Try.prog 13 #[.pointer (some ⟨s, 0, none⟩)] w (AllP xs w) := by
  have H := Lib.hid (set_list h hl)
  clear h
  go_enter Try.func13, Try.ntmps13
  go_wp2_with fail
  refine H.out.mono ?_
  rintro e w1 ⟨⟨v', rfl, h1⟩, h2⟩
  obtain ⟨A', c', rfl⟩ := row_slice h1
  have HV := values_calls A' xs.length c' w1
  have HH := Lib.hid (And.intro h1 h2)
  clear h1 h2
  go_wp2_with fail
  refine HV.mono ?_
  intro e w2 h
  obtain ⟨⟨F, rfl, h4⟩, h5⟩ := all_of HH.out.1 HH.out.2 h
  have H2 := Lib.hid (And.intro h4 h5)
  clear h h4 h5
  go_wp2_with fail
  go_ret
  exact ⟨⟨_, rfl, H2.out.1⟩, H2.out.2⟩
end Go.Proofs.Yteiiaocohpbanaa
