/- Layer 22: what is more than is looked at; whether a mask means somebody, on both sides. -/
import Derived.Test.YteepgklilhljiaaDoorPersB
import Derived.Test.YteepgklilhljiaaDoorGlobJ
namespace Go.Proofs.YteepgklilhljiaaDoor
set_option linter.unusedVariables false
set_option linter.unusedSimpArgs false
open Go.RowKit Go.Shelf

theorem great22 (a : Int) (n u h r y : ByteArray) (o d : Bool) (si sp : Int) (w : World) :
    Calls Tryd.prog 11 #[per a n u h r y o d si sp] w fun e w' => e = .returned (.bool (decide (200 < n.size ∨ 200 < u.size ∨ 200 < h.size ∨ 200 < r.size ∨ 200 < y.size))) ∧ Below w.heap.size w w' := by
  unfold per
  have hcase : (200 < n.size) ∨ (¬ 200 < n.size ∧ 200 < u.size) ∨ (¬ 200 < n.size ∧ ¬ 200 < u.size ∧ 200 < h.size) ∨ (¬ 200 < n.size ∧ ¬ 200 < u.size ∧ ¬ 200 < h.size ∧ 200 < r.size) ∨ (¬ 200 < n.size ∧ ¬ 200 < u.size ∧ ¬ 200 < h.size ∧ ¬ 200 < r.size ∧ 200 < y.size) ∨ (¬ 200 < n.size ∧ ¬ 200 < u.size ∧ ¬ 200 < h.size ∧ ¬ 200 < r.size ∧ ¬ 200 < y.size) := by omega
  rcases hcase with h1 | ⟨h1, h2⟩ | ⟨h1, h2, h3⟩ | ⟨h1, h2, h3, h4⟩ | ⟨h1, h2, h3, h4, h5⟩ | ⟨h1, h2, h3, h4, h5⟩
  · rw [decide_eq_true (by omega)]
    have k1 : (200 : Int) < n.size := by omega
    go_enter Tryd.func11, Tryd.ntmps11
    go_wp2_with fail
    go_ret
    exact ⟨ret_bool (by simp), (Below.refl _ _).alloc (Nat.le_refl _) _⟩
  · rw [decide_eq_true (by omega)]
    have k1 : ¬ (200 : Int) < n.size := by omega
    have k2 : (200 : Int) < u.size := by omega
    go_enter Tryd.func11, Tryd.ntmps11
    go_wp2_with fail
    go_ret
    exact ⟨ret_bool (by simp), (Below.refl _ _).alloc (Nat.le_refl _) _⟩
  · rw [decide_eq_true (by omega)]
    have k1 : ¬ (200 : Int) < n.size := by omega
    have k2 : ¬ (200 : Int) < u.size := by omega
    have k3 : (200 : Int) < h.size := by omega
    go_enter Tryd.func11, Tryd.ntmps11
    go_wp2_with fail
    go_ret
    exact ⟨ret_bool (by simp), (Below.refl _ _).alloc (Nat.le_refl _) _⟩
  · rw [decide_eq_true (by omega)]
    have k1 : ¬ (200 : Int) < n.size := by omega
    have k2 : ¬ (200 : Int) < u.size := by omega
    have k3 : ¬ (200 : Int) < h.size := by omega
    have k4 : (200 : Int) < r.size := by omega
    go_enter Tryd.func11, Tryd.ntmps11
    go_wp2_with fail
    go_ret
    exact ⟨ret_bool (by simp), (Below.refl _ _).alloc (Nat.le_refl _) _⟩
  · rw [decide_eq_true (by omega)]
    have k1 : ¬ (200 : Int) < n.size := by omega
    have k2 : ¬ (200 : Int) < u.size := by omega
    have k3 : ¬ (200 : Int) < h.size := by omega
    have k4 : ¬ (200 : Int) < r.size := by omega
    have k5 : (200 : Int) < y.size := by omega
    go_enter Tryd.func11, Tryd.ntmps11
    go_wp2_with fail
    go_ret
    exact ⟨ret_bool (by simp), (Below.refl _ _).alloc (Nat.le_refl _) _⟩
  · rw [decide_eq_false (by omega)]
    have k1 : ¬ (200 : Int) < n.size := by omega
    have k2 : ¬ (200 : Int) < u.size := by omega
    have k3 : ¬ (200 : Int) < h.size := by omega
    have k4 : ¬ (200 : Int) < r.size := by omega
    have k5 : ¬ (200 : Int) < y.size := by omega
    go_enter Tryd.func11, Tryd.ntmps11
    go_wp2_with fail
    go_ret
    exact ⟨ret_bool (by simp), (Below.refl _ _).alloc (Nat.le_refl _) _⟩

/-- somebody's box, as it is laid, and behind anything that keeps what lay below -/
theorem perbox (w w1 : World) (a : Int) (n u h r y : ByteArray) (o d : Bool) (si sp : Int) (q : Below (w.heap.size + 1) (w.alloc (.cells #[.int .i64 a, .string n, .string u, .string h, .string r, .string y, .bool o, .bool d, .int .i64 si, .int .i64 sp] 26)) w1) :
    w1.cell? ⟨w.heap.size, 2, none⟩ = some (.string u) ∧ w1.cell? ⟨w.heap.size, 3, none⟩ = some (.string h) := by
  have k := fun j => cell_of_row _ w.heap.size j _ _ _ (heap_alloc_new w (.cells #[.int .i64 a, .string n, .string u, .string h, .string r, .string y, .bool o, .bool d, .int .i64 si, .int .i64 sp] 26))
  exact ⟨(q.cell (p := ⟨w.heap.size, 2, none⟩) (Nat.lt_succ_self _)).trans (k 2), (q.cell (p := ⟨w.heap.size, 3, none⟩) (Nat.lt_succ_self _)).trans (k 3)⟩
def meetB (m n u h : ByteArray) : Bool := mm m.data.toList n.data.toList || mm m.data.toList u.data.toList || mm m.data.toList h.data.toList
theorem below_dn1 {w w' : World} (h : ∃ n, w' = w.drewN n) : Below w.heap.size w w' := by
  obtain ⟨n, rfl⟩ := h
  exact ⟨rfl, rfl, rfl, Nat.le_refl _, fun _ _ => rfl⟩
set_option maxHeartbeats 2000000 in
theorem meets22 (m : ByteArray) (a : Int) (n u h r y : ByteArray) (o d : Bool) (si sp : Int) (w : World) (hm : m.size ≤ 1000000) (hn : n.size ≤ 1000000) (hu : u.size ≤ 1000000) (hh : h.size ≤ 1000000) :
    Calls Tryd.prog 17 #[.string m, per a n u h r y o d si sp] w fun e w' => e = .returned (.bool (meetB m n u h)) ∧ Below w.heap.size w w' := by
  unfold per meetB
  obtain ⟨b1, e1⟩ : ∃ b, mm m.data.toList n.data.toList = b := ⟨_, rfl⟩
  obtain ⟨b2, e2⟩ : ∃ b, mm m.data.toList u.data.toList = b := ⟨_, rfl⟩
  obtain ⟨b3, e3⟩ : ∃ b, mm m.data.toList h.data.toList = b := ⟨_, rfl⟩
  have M1 : ∀ W, Calls Tryd.prog 26 #[.string m, .string n] W fun e w' => e = .returned (.bool b1) ∧ Below W.heap.size W w' := fun W => (match_any m n W hm hn).mono fun e w' k => ⟨by rw [k.1, e1], below_dn1 k.2⟩
  have M2 : ∀ W, Calls Tryd.prog 26 #[.string m, .string u] W fun e w' => e = .returned (.bool b2) ∧ Below W.heap.size W w' := fun W => (match_any m u W hm hu).mono fun e w' k => ⟨by rw [k.1, e2], below_dn1 k.2⟩
  have M3 : ∀ W, Calls Tryd.prog 26 #[.string m, .string h] W fun e w' => e = .returned (.bool b3) ∧ Below W.heap.size W w' := fun W => (match_any m h W hm hh).mono fun e w' k => ⟨by rw [k.1, e3], below_dn1 k.2⟩
  rw [e1, e2, e3]
  clear e1 e2 e3
  cases b1
  · cases b2
    · go_enter Tryd.func17, Tryd.ntmps17
      go_wp2_with fail
      go_at_call 26
      refine (M1 _).mono ?_
      rintro e w1 ⟨rfl, q1⟩
      have p1 := perbox w w1 a n u h r y o d si sp (by simpa using q1)
      obtain ⟨c2, c3⟩ := p1
      have f1 := q1.size
      go_wp2_with fail
      go_at_call 26
      refine (M2 _).mono ?_
      rintro e w2 ⟨rfl, q2⟩
      have q3 := q1.trans (q2.mono f1)
      clear c2 c3
      have p2 := perbox w w2 a n u h r y o d si sp (by simpa using q3)
      obtain ⟨c2, c3⟩ := p2
      have f2 := q3.size
      go_wp2_with fail
      go_at_call 26
      refine (M3 _).mono ?_
      rintro e w3 ⟨rfl, q4⟩
      have q5 := q3.trans (q4.mono f2)
      clear c2 c3
      go_wp2_with fail
      go_ret
      exact ⟨ret_bool (by simp), ((Below.refl _ w).alloc (Nat.le_refl _) _).trans (q5.mono (by simp))⟩
    · go_enter Tryd.func17, Tryd.ntmps17
      go_wp2_with fail
      go_at_call 26
      refine (M1 _).mono ?_
      rintro e w1 ⟨rfl, q1⟩
      have p1 := perbox w w1 a n u h r y o d si sp (by simpa using q1)
      obtain ⟨c2, c3⟩ := p1
      have f1 := q1.size
      go_wp2_with fail
      go_at_call 26
      refine (M2 _).mono ?_
      rintro e w2 ⟨rfl, q2⟩
      have q3 := q1.trans (q2.mono f1)
      clear c2 c3
      go_wp2_with fail
      go_ret
      exact ⟨ret_bool (by simp), ((Below.refl _ w).alloc (Nat.le_refl _) _).trans (q3.mono (by simp))⟩
  · go_enter Tryd.func17, Tryd.ntmps17
    go_wp2_with fail
    go_at_call 26
    refine (M1 _).mono ?_
    rintro e w1 ⟨rfl, q1⟩
    go_wp2_with fail
    go_ret
    exact ⟨ret_bool (by simp), ((Below.refl _ w).alloc (Nat.le_refl _) _).trans (q1.mono (by simp))⟩
set_option maxHeartbeats 2000000 in
theorem rmeets22 (m : ByteArray) (a : Int) (n u h r y : ByteArray) (o d : Bool) (si sp : Int) (w : World) (hm : m.size ≤ 1000000) (hn : n.size ≤ 1000000) (hu : u.size ≤ 1000000) (hh : h.size ≤ 1000000) :
    Calls Tryd.prog 18 #[.string m, per a n u h r y o d si sp] w fun e w' => e = .returned (.bool (meetB m n u h)) ∧ Below w.heap.size w w' := by
  unfold per meetB
  obtain ⟨b1, e1⟩ : ∃ b, mm m.data.toList n.data.toList = b := ⟨_, rfl⟩
  obtain ⟨b2, e2⟩ : ∃ b, mm m.data.toList u.data.toList = b := ⟨_, rfl⟩
  obtain ⟨b3, e3⟩ : ∃ b, mm m.data.toList h.data.toList = b := ⟨_, rfl⟩
  have M1 : ∀ W, Calls Tryd.prog 27 #[.string m, .string n] W fun e w' => e = .returned (.bool b1) ∧ Below W.heap.size W w' := fun W => (rmatch_any m n W hm hn).mono fun e w' k => ⟨by rw [k.1, e1], k.2⟩
  have M2 : ∀ W, Calls Tryd.prog 27 #[.string m, .string u] W fun e w' => e = .returned (.bool b2) ∧ Below W.heap.size W w' := fun W => (rmatch_any m u W hm hu).mono fun e w' k => ⟨by rw [k.1, e2], k.2⟩
  have M3 : ∀ W, Calls Tryd.prog 27 #[.string m, .string h] W fun e w' => e = .returned (.bool b3) ∧ Below W.heap.size W w' := fun W => (rmatch_any m h W hm hh).mono fun e w' k => ⟨by rw [k.1, e3], k.2⟩
  rw [e1, e2, e3]
  clear e1 e2 e3
  cases b1
  · cases b2
    · go_enter Tryd.func18, Tryd.ntmps18
      go_wp2_with fail
      go_at_call 27
      refine (M1 _).mono ?_
      rintro e w1 ⟨rfl, q1⟩
      have p1 := perbox w w1 a n u h r y o d si sp (by simpa using q1)
      obtain ⟨c2, c3⟩ := p1
      have f1 := q1.size
      go_wp2_with fail
      go_at_call 27
      refine (M2 _).mono ?_
      rintro e w2 ⟨rfl, q2⟩
      have q3 := q1.trans (q2.mono f1)
      clear c2 c3
      have p2 := perbox w w2 a n u h r y o d si sp (by simpa using q3)
      obtain ⟨c2, c3⟩ := p2
      have f2 := q3.size
      go_wp2_with fail
      go_at_call 27
      refine (M3 _).mono ?_
      rintro e w3 ⟨rfl, q4⟩
      have q5 := q3.trans (q4.mono f2)
      clear c2 c3
      go_wp2_with fail
      go_ret
      exact ⟨ret_bool (by simp), ((Below.refl _ w).alloc (Nat.le_refl _) _).trans (q5.mono (by simp))⟩
    · go_enter Tryd.func18, Tryd.ntmps18
      go_wp2_with fail
      go_at_call 27
      refine (M1 _).mono ?_
      rintro e w1 ⟨rfl, q1⟩
      have p1 := perbox w w1 a n u h r y o d si sp (by simpa using q1)
      obtain ⟨c2, c3⟩ := p1
      have f1 := q1.size
      go_wp2_with fail
      go_at_call 27
      refine (M2 _).mono ?_
      rintro e w2 ⟨rfl, q2⟩
      have q3 := q1.trans (q2.mono f1)
      clear c2 c3
      go_wp2_with fail
      go_ret
      exact ⟨ret_bool (by simp), ((Below.refl _ w).alloc (Nat.le_refl _) _).trans (q3.mono (by simp))⟩
  · go_enter Tryd.func18, Tryd.ntmps18
    go_wp2_with fail
    go_at_call 27
    refine (M1 _).mono ?_
    rintro e w1 ⟨rfl, q1⟩
    go_wp2_with fail
    go_ret
    exact ⟨ret_bool (by simp), ((Below.refl _ w).alloc (Nat.le_refl _) _).trans (q1.mono (by simp))⟩
end Go.Proofs.YteepgklilhljiaaDoor
