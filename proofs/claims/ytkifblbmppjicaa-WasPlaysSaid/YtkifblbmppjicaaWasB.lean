/- Layer 13: a past, as it lies; Put, Len. -/
import Derived.Test.YtkifblbmppjicaaWasA
import Derived.Test.YtkifblbmppjicaaFrm
namespace Go.Proofs.Ytkifblbmppjicaa
set_option linter.unusedVariables false
set_option linter.unusedSimpArgs false
open Go.RowKit Go.Shelf

/-- a name, and a number -/
abbrev Ent := ByteArray × Int
def fullB (N : Nat) (h : List Ent) : Bool := decide (0 < N ∧ N ≤ h.length)
/-- row cs of N places holds the last N of all that went -/
def RingP (cs : Array Value) (N : Nat) (h : List Ent) : Prop := ∀ j (hj : j < h.length), h.length ≤ j + N → cs[j % N * 2]? = some (.string h[j].1) ∧ cs[j % N * 2 + 1]? = some (.int .i64 h[j].2)
structure PastAt (w : World) (q R N : Nat) (h : List Ent) : Prop where
  ne : q ≠ R
  hd : w.heap[q]? = some (.cells #[.slice (some ⟨R, 0, none⟩) N N, .int .i64 ((h.length % N : Nat) : Int), .bool (fullB N h)] 80 (0, 0))
  row : ∃ cs, w.heap[R]? = some (.cells cs 82 (0, 0)) ∧ cs.size = N * 2 ∧ RingP cs N h
  zero : N = 0 → h = []
/-- what went, one more -/
def went (N : Nat) (h : List Ent) (x : Ent) : List Ent := if N = 0 then h else h ++ [x]

theorem past_kept {w w' : World} {q R N : Nat} {h : List Ent} (k : PastAt w q R N h) (h1 : w'.heap[q]? = w.heap[q]?) (h2 : w'.heap[R]? = w.heap[R]?) : PastAt w' q R N h :=
  ⟨k.ne, h1.trans k.hd, by obtain ⟨cs, a, b⟩ := k.row; exact ⟨cs, h2.trans a, b⟩, k.zero⟩
theorem past_drew {w : World} {q R N : Nat} {h : List Ent} (k : PastAt w q R N h) : PastAt w.drew q R N h := past_kept k rfl rfl
theorem mod_succ (x N : Nat) (hN : 0 < N) : (x + 1) % N = if x % N + 1 = N then 0 else x % N + 1 := by
  have h1 := Nat.mod_lt x hN
  rw [Nat.add_mod]
  by_cases h2 : N = 1
  · subst h2; simp [Nat.mod_one]
  · rw [Nat.mod_eq_of_lt (show 1 < N by omega)]
    split
    · next e => rw [e, Nat.mod_self]
    · exact Nat.mod_eq_of_lt (by omega)
theorem mod_ne (x j N : Nat) (h1 : j < x) (h2 : x < j + N) : j % N ≠ x % N := by
  intro e
  have hN : 0 < N := by omega
  have a := Nat.div_add_mod x N
  have b := Nat.div_add_mod j N
  rw [e] at b
  have hd : j / N ≤ x / N := Nat.div_le_div_right (by omega)
  rcases Nat.lt_or_ge (j / N) (x / N) with h | h
  · have : N * (j / N + 1) ≤ N * (x / N) := Nat.mul_le_mul_left N h
    rw [Nat.mul_add] at this
    omega
  · have he : j / N = x / N := by omega
    rw [he] at b
    omega
theorem ring_put {cs : Array Value} {N : Nat} {h : List Ent} (hs : cs.size = N * 2) (hN : 0 < N) (k : RingP cs N h) (s : ByteArray) (v : Int) :
    RingP ((cs.setIfInBounds (h.length % N * 2) (.string s)).setIfInBounds (h.length % N * 2 + 1) (.int .i64 v)) N (h ++ [(s, v)]) := by
  have hm := Nat.mod_lt h.length hN
  intro j hj hl
  rw [List.length_append, List.length_singleton] at hj hl
  by_cases e : j = h.length
  · subst e
    refine ⟨?_, ?_⟩
    · rw [Array.getElem?_setIfInBounds, if_neg (by omega), Array.getElem?_setIfInBounds, if_pos rfl, if_pos (by omega)]; simp
    · rw [Array.getElem?_setIfInBounds, if_pos rfl, if_pos (by simp; omega)]; simp
  · have hjl : j < h.length := by omega
    have hn := mod_ne h.length j N hjl (by omega)
    obtain ⟨a, b⟩ := k j hjl (by omega)
    refine ⟨?_, ?_⟩
    · rw [Array.getElem?_setIfInBounds, if_neg (by omega), Array.getElem?_setIfInBounds, if_neg (by omega), a]; simp [List.getElem_append, hjl]
    · rw [Array.getElem?_setIfInBounds, if_neg (by omega), Array.getElem?_setIfInBounds, if_neg (by omega), b]; simp [List.getElem_append, hjl]
/-- the two blocks of a past -/
def two (q R : Nat) : Nat → Prop := fun k => k = q ∨ k = R
theorem set3_1 (a b c v : Value) : (#[a, b, c] : Array Value).setIfInBounds 1 v = #[a, v, c] := rfl
theorem set3_2 (a b c v : Value) : (#[a, b, c] : Array Value).setIfInBounds 2 v = #[a, b, v] := rfl
theorem past_step {w : World} {q R N : Nat} {h : List Ent} (k : PastAt w q R N h) (hN : 0 < N) (s : ByteArray) (v : Int) (hm : h.length % N + 1 ≠ N) :
    PastAt (((w.setCell ⟨R, h.length % N * 2, none⟩ (.string s)).setCell ⟨R, h.length % N * 2 + 1, none⟩ (.int .i64 v)).setCell ⟨q, 1, none⟩ (.int .i64 ((h.length % N : Nat) + 1))) q R N (h ++ [(s, v)]) := by
  obtain ⟨ne, hd, ⟨cs, hr, hs, hk⟩, _⟩ := k
  refine ⟨ne, ?_, ⟨_, blk_other (blk_set (blk_set hr _ _) _ _) _ (fun e => ne e.symm) _, by simpa using hs, ring_put hs hN hk s v⟩, fun e => by omega⟩
  have h1 := blk_set (blk_other (blk_other hd ⟨R, h.length % N * 2, none⟩ ne (.string s)) ⟨R, h.length % N * 2 + 1, none⟩ ne (.int .i64 v)) 1 (.int .i64 ((h.length % N : Nat) + 1))
  rw [set3_1] at h1
  rw [h1, List.length_append, List.length_singleton, mod_succ _ _ hN, if_neg hm]
  have hlt := Nat.mod_lt h.length hN
  have e : fullB N (h ++ [(s, v)]) = fullB N h := by
    unfold fullB
    rw [decide_eq_decide, List.length_append, List.length_singleton]
    constructor
    · rintro ⟨_, h2⟩
      refine ⟨hN, ?_⟩
      rcases Nat.lt_or_ge h.length N with h3 | h3
      · rw [Nat.mod_eq_of_lt h3] at hm; omega
      · exact h3
    · rintro ⟨_, h2⟩; exact ⟨hN, by omega⟩
  rw [e]
  push_cast
  rfl
theorem past_wrap {w : World} {q R N : Nat} {h : List Ent} (k : PastAt w q R N h) (hN : 0 < N) (s : ByteArray) (v : Int) (hm : h.length % N + 1 = N) (u : Value) :
    PastAt (((((w.setCell ⟨R, h.length % N * 2, none⟩ (.string s)).setCell ⟨R, h.length % N * 2 + 1, none⟩ (.int .i64 v)).setCell ⟨q, 1, none⟩ u).setCell ⟨q, 1, none⟩ (.int .i64 0)).setCell ⟨q, 2, none⟩ (.bool true)) q R N (h ++ [(s, v)]) := by
  obtain ⟨ne, hd, ⟨cs, hr, hs, hk⟩, _⟩ := k
  have ne' : R ≠ q := fun e => ne e.symm
  refine ⟨ne, ?_, ⟨_, blk_other (blk_other (blk_other (blk_set (blk_set hr _ _) _ _) _ ne' _) _ ne' _) _ ne' _, by simpa using hs, ring_put hs hN hk s v⟩, fun e => by omega⟩
  have h1 := blk_set (blk_set (blk_set (blk_other (blk_other hd ⟨R, h.length % N * 2, none⟩ ne (.string s)) ⟨R, h.length % N * 2 + 1, none⟩ ne (.int .i64 v)) 1 u) 1 (.int .i64 0)) 2 (.bool true)
  rw [set3_1, set3_1, set3_2] at h1
  rw [h1, List.length_append, List.length_singleton, mod_succ _ _ hN, if_pos hm]
  have e : fullB N (h ++ [(s, v)]) = true := by
    unfold fullB
    rw [decide_eq_true_iff, List.length_append, List.length_singleton]
    have := Nat.mod_le h.length N
    omega
  rw [e]
  rfl

theorem past_put_nil (name : ByteArray) (v : Int) (w : World) :
    Calls Try.prog 11 #[.pointer none, .string name, .int .i64 v] w fun e w' => e = .returned (.tuple #[]) ∧ w' = w := by
  go_enter Try.func11, Try.ntmps11
  go_wp2_with fail
  exact bodyPost_ret (results_none rfl _ _ _) rfl ⟨rfl, rfl⟩
set_option maxHeartbeats 1000000 in
theorem past_put {w : World} {q R N : Nat} {h : List Ent} (hP : PastAt w q R N h) (hN : N ≤ 100000) (name : ByteArray) (v : Int) :
    Calls Try.prog 11 #[.pointer (some ⟨q, 0, none⟩), .string name, .int .i64 v] w fun e w' => e = .returned (.tuple #[]) ∧ PastAt w' q R N (went N h (name, v)) ∧ Fr (two q R) w w' := by
  obtain ⟨cs, hr, hs, hk⟩ := hP.row
  have c0 := blk_cell hP.hd 0
  have c1 := blk_cell hP.hd 1
  have c2 := blk_cell hP.hd 2
  have f0 := blk_free hP.hd
  have f1 := blk_free hr
  have d := blk_cell hr
  have hne := hP.ne
  by_cases h0 : N = 0
  · subst h0
    obtain rfl := hP.zero rfl
    have HP := Lib.hid hP
    clear hr hk c1 c2 f0 f1 d hne hP
    go_enter Try.func11, Try.ntmps11
    go_wp2_with fail
    refine bodyPost_ret (results_none rfl _ _ _) rfl ⟨rfl, HP.out, Fr.refl _ _⟩
  · have hpos : 0 < N := by omega
    have hml := Nat.mod_lt h.length hpos
    obtain ⟨x, hx⟩ : ∃ x, h.length % N = x := ⟨_, rfl⟩
    rw [hx] at c1 hml
    obtain ⟨u0, g0⟩ : ∃ u, cs[x * 2]? = some u := ⟨cs[x * 2]'(by omega), Array.getElem?_eq_getElem (by omega)⟩
    obtain ⟨u1, g1⟩ : ∃ u, cs[x * 2 + 1]? = some u := ⟨cs[x * 2 + 1]'(by omega), Array.getElem?_eq_getElem (by omega)⟩
    have d0 := (d (x * 2)).trans g0
    have d1 := (d (x * 2 + 1)).trans g1
    have hst := fun (s : ByteArray) (v : Int) => past_step hP hpos s v
    have hwr := fun (s : ByteArray) (v : Int) => past_wrap hP hpos s v
    rw [hx] at hst hwr
    have hw : went N h (name, v) = h ++ [(name, v)] := if_neg h0
    rw [hw]
    have HS := Lib.hid hst
    have HW := Lib.hid hwr
    have hN0 : ¬ ((N : Int) = 0) := by omega
    clear hst hwr hw hr hs hk d g0 g1 hP hx h0
    by_cases hlast : x + 1 = N
    · have e1 : ((x : Int) + 1 == (N : Int)) = true := by rw [beq_iff_eq]; omega
      have HL := Lib.hid hlast
      clear hlast
      go_enter Try.func11, Try.ntmps11
      go_wp2_with fail
      go_region
      go_wp2_with fail
      go_region
      go_wp2_with fail
      go_end0
      refine ⟨rfl, past_drew (past_drew (HW.out name v HL.out _)), ?_⟩
      exact (((((((Fr.refl _ w).setCell ⟨R, x * 2, none⟩ (.inr rfl) _).setCell ⟨R, x * 2 + 1, none⟩ (.inr rfl) _).setCell ⟨q, 1, none⟩ (.inl rfl) _)).setCell ⟨q, 1, none⟩ (.inl rfl) _).setCell ⟨q, 2, none⟩ (.inl rfl) _).drew.drew
    · have e1 : ((x : Int) + 1 == (N : Int)) = false := by rw [beq_eq_false_iff_ne]; omega
      have HL := Lib.hid hlast
      clear hlast
      go_enter Try.func11, Try.ntmps11
      go_wp2_with fail
      go_region
      go_wp2_with fail
      go_region
      go_wp2_with fail
      go_end0
      refine ⟨rfl, past_drew (past_drew (HS.out name v HL.out)), ?_⟩
      exact ((((Fr.refl _ w).setCell ⟨R, x * 2, none⟩ (.inr rfl) _).setCell ⟨R, x * 2 + 1, none⟩ (.inr rfl) _).setCell ⟨q, 1, none⟩ (.inl rfl) _).drew.drew
theorem past_len_nil (w : World) :
    Calls Try.prog 12 #[.pointer none] w fun e w' => e = .returned (.int .i64 0) ∧ w = w' := by
  go_enter Try.func12, Try.ntmps12
  go_wp2_with fail
  go_ret
  exact ⟨rfl, rfl⟩
theorem past_len {w : World} {q R N : Nat} {h : List Ent} (hP : PastAt w q R N h) :
    Calls Try.prog 12 #[.pointer (some ⟨q, 0, none⟩)] w fun e w' => e = .returned (.int .i64 (min h.length N : Nat)) ∧ w = w' := by
  have c0 := blk_cell hP.hd 0
  have c1 := blk_cell hP.hd 1
  have c2 := blk_cell hP.hd 2
  by_cases hf : 0 < N ∧ N ≤ h.length
  · have e1 : fullB N h = true := decide_eq_true hf
    rw [show min h.length N = N by omega]
    rw [e1] at c2
    clear hf e1 hP
    go_enter Try.func12, Try.ntmps12
    go_wp2_with fail
    go_ret
    exact ⟨rfl, rfl⟩
  · have e1 : fullB N h = false := decide_eq_false hf
    have e2 : min h.length N = h.length % N := by
      by_cases h0 : N = 0
      · rw [hP.zero h0]; simp
      · rw [Nat.mod_eq_of_lt (by omega)]; omega
    rw [e2]
    rw [e1] at c2
    clear hf e1 e2 hP
    go_enter Try.func12, Try.ntmps12
    go_wp2_with fail
    go_ret
    exact ⟨rfl, rfl⟩
end Go.Proofs.Ytkifblbmppjicaa
