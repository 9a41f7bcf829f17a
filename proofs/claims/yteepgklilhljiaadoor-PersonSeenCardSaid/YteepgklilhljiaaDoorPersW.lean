/- Layer 22: PersonSeen, where more is given than is looked at. -/
import Derived.Test.YteepgklilhljiaaDoorPersC
namespace Go.Proofs.YteepgklilhljiaaDoor
set_option linter.unusedVariables false
set_option linter.unusedSimpArgs false
open Go.RowKit Go.Shelf

def perC (id : Int) (n u h r a : ByteArray) (o d : Bool) (si sp : Int) : Array Value := #[.int .i64 id, .string n, .string u, .string h, .string r, .string a, .bool o, .bool d, .int .i64 si, .int .i64 sp]
/-- somebody's box, cell by cell -/
def Box10 (W : World) (B : Nat) (i : Int) (n u h r a : ByteArray) (o d : Bool) (si sp : Int) : Prop := W.cell? ⟨B, 0, none⟩ = some (.int .i64 i) ∧ W.cell? ⟨B, 1, none⟩ = some (.string n) ∧ W.cell? ⟨B, 2, none⟩ = some (.string u) ∧ W.cell? ⟨B, 3, none⟩ = some (.string h) ∧ W.cell? ⟨B, 4, none⟩ = some (.string r) ∧ W.cell? ⟨B, 5, none⟩ = some (.string a) ∧ W.cell? ⟨B, 6, none⟩ = some (.bool o) ∧ W.cell? ⟨B, 7, none⟩ = some (.bool d) ∧ W.cell? ⟨B, 8, none⟩ = some (.int .i64 si) ∧ W.cell? ⟨B, 9, none⟩ = some (.int .i64 sp)
theorem Box10.kept {W W' : World} {B m : Nat} {i : Int} {n u h r a : ByteArray} {o d : Bool} {si sp : Int} (k : Box10 W B i n u h r a o d si sp) (hB : B < m) (hb : Below m W W') : Box10 W' B i n u h r a o d si sp := by
  unfold Box10 at k ⊢
  simp only [hb.cell (p := ⟨B, _, none⟩) hB]
  exact k
theorem Box10.new (w : World) (i : Int) (n u h r a : ByteArray) (o d : Bool) (si sp : Int) (T : TypeId) : Box10 (w.alloc (.cells #[.int .i64 i, .string n, .string u, .string h, .string r, .string a, .bool o, .bool d, .int .i64 si, .int .i64 sp] T)) w.heap.size i n u h r a o d si sp := by
  have k := fun j => cell_of_row _ w.heap.size j _ _ _ (heap_alloc_new w (.cells #[.int .i64 i, .string n, .string u, .string h, .string r, .string a, .bool o, .bool d, .int .i64 si, .int .i64 sp] T))
  exact ⟨k 0, k 1, k 2, k 3, k 4, k 5, k 6, k 7, k 8, k 9⟩

set_option maxRecDepth 100000 in
set_option maxHeartbeats 8000000 in
theorem personSeen_great (i1 : Int) (n1 u1 h1 r1 a1 : ByteArray) (o1 d1 : Bool) (si1 sp1 : Int) (i2 : Int) (n2 u2 h2 r2 a2 : ByteArray) (o2 d2 : Bool) (si2 sp2 : Int) (i3 : Int) (op vo : Bool) (mask : ByteArray) (w : World) (hg : 200 < n2.size ∨ 200 < u2.size ∨ 200 < h2.size ∨ 200 < r2.size ∨ 200 < a2.size) :
    Calls Tryd.prog 4 #[per i1 n1 u1 h1 r1 a1 o1 d1 si1 sp1, per i2 n2 u2 h2 r2 a2 o2 d2 si2 sp2, memb i3 op vo, .string mask] w fun e w' => e = .returned (.bool true) ∧ Below w.heap.size w w' := by
  have G : ∀ W, Calls Tryd.prog 11 #[per i2 n2 u2 h2 r2 a2 o2 d2 si2 sp2] W fun e w' => e = .returned (.bool true) ∧ Below W.heap.size W w' := fun W => (great22 i2 n2 u2 h2 r2 a2 o2 d2 si2 sp2 W).mono fun e w' k => ⟨by rw [k.1, decide_eq_true hg], k.2⟩
  clear hg
  unfold per at G
  have HG := Lib.hid G
  clear G
  unfold per memb
  have hq := Box10.new (w.alloc (.cells #[.int .i64 i1, .string n1, .string u1, .string h1, .string r1, .string a1, .bool o1, .bool d1, .int .i64 si1, .int .i64 sp1] 26)) i2 n2 u2 h2 r2 a2 o2 d2 si2 sp2 26
  have HQ := Lib.hid hq
  clear hq
  go_enter Tryd.func4, Tryd.ntmps4
  go_wp2_with fail
  refine (awake22 _).mono ?_
  rintro e w1 ⟨rfl, q1⟩
  have hb : Box10 w1 (w.heap.size + 1) i2 n2 u2 h2 r2 a2 o2 d2 si2 sp2 := by
    have k := HQ.out
    rw [World.size_alloc] at k
    exact (k.kept (m := w.heap.size + 2) (by omega) ((Below.refl _ _).alloc (by simp) _)).kept (m := w.heap.size + 1 + 1 + 1) (by omega) (by simpa using q1)
  have hs := q1.size
  obtain ⟨c0, c1, c2, c3, c4, c5, c6, c7, c8, c9⟩ := hb
  have HB := Lib.hid q1
  clear q1
  go_wp2_with fail
  refine (HG.out _).mono ?_
  rintro e w2 ⟨rfl, q2⟩
  clear c0 c1 c2 c3 c4 c5 c6 c7 c8 c9
  go_wp2_with fail
  go_ret
  refine ⟨rfl, ?_⟩
  have q3 := HB.out.trans (q2.mono hs)
  exact (((Below.refl _ w).alloc (Nat.le_refl _) _).alloc (by simp) _).alloc (by simp; omega) _ |>.trans (q3.mono (by simp; omega))
set_option maxRecDepth 100000 in
set_option maxHeartbeats 8000000 in
theorem personSeen_long (i1 : Int) (n1 u1 h1 r1 a1 : ByteArray) (o1 d1 : Bool) (si1 sp1 : Int) (i2 : Int) (n2 u2 h2 r2 a2 : ByteArray) (o2 d2 : Bool) (si2 sp2 : Int) (i3 : Int) (op vo : Bool) (mask : ByteArray) (w : World) (hg : ¬ (200 < n2.size ∨ 200 < u2.size ∨ 200 < h2.size ∨ 200 < r2.size ∨ 200 < a2.size)) (hm : 30 < mask.size) :
    Calls Tryd.prog 4 #[per i1 n1 u1 h1 r1 a1 o1 d1 si1 sp1, per i2 n2 u2 h2 r2 a2 o2 d2 si2 sp2, memb i3 op vo, .string mask] w fun e w' => e = .returned (.bool true) ∧ Below w.heap.size w w' := by
  have G : ∀ W, Calls Tryd.prog 11 #[per i2 n2 u2 h2 r2 a2 o2 d2 si2 sp2] W fun e w' => e = .returned (.bool false) ∧ Below W.heap.size W w' := fun W => (great22 i2 n2 u2 h2 r2 a2 o2 d2 si2 sp2 W).mono fun e w' k => ⟨by rw [k.1, decide_eq_false hg], k.2⟩
  clear hg
  have km : (30 : Int) < mask.size := by omega
  clear hm
  unfold per at G
  have HG := Lib.hid G
  clear G
  unfold per memb
  have hq := Box10.new (w.alloc (.cells #[.int .i64 i1, .string n1, .string u1, .string h1, .string r1, .string a1, .bool o1, .bool d1, .int .i64 si1, .int .i64 sp1] 26)) i2 n2 u2 h2 r2 a2 o2 d2 si2 sp2 26
  have HQ := Lib.hid hq
  clear hq
  go_enter Tryd.func4, Tryd.ntmps4
  go_wp2_with fail
  refine (awake22 _).mono ?_
  rintro e w1 ⟨rfl, q1⟩
  have hb : Box10 w1 (w.heap.size + 1) i2 n2 u2 h2 r2 a2 o2 d2 si2 sp2 := by
    have k := HQ.out
    rw [World.size_alloc] at k
    exact (k.kept (m := w.heap.size + 2) (by omega) ((Below.refl _ _).alloc (by simp) _)).kept (m := w.heap.size + 1 + 1 + 1) (by omega) (by simpa using q1)
  have hs := q1.size
  obtain ⟨c0, c1, c2, c3, c4, c5, c6, c7, c8, c9⟩ := hb
  have HB := Lib.hid q1
  clear q1
  go_wp2_with fail
  refine (HG.out _).mono ?_
  rintro e w2 ⟨rfl, q2⟩
  clear c0 c1 c2 c3 c4 c5 c6 c7 c8 c9
  go_wp2_with fail
  go_ret
  refine ⟨rfl, ?_⟩
  have q3 := HB.out.trans (q2.mono hs)
  exact (((Below.refl _ w).alloc (Nat.le_refl _) _).alloc (by simp) _).alloc (by simp; omega) _ |>.trans (q3.mono (by simp; omega))
end Go.Proofs.YteepgklilhljiaaDoor
