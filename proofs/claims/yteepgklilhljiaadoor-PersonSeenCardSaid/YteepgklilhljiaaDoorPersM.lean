/- Layer 22: PersonSeen: its main way. -/
import Derived.Test.YteepgklilhljiaaDoorPersW
import Derived.Deep.RegionHeld3
namespace Go.Proofs.YteepgklilhljiaaDoor
set_option linter.unusedVariables false
set_option linter.unusedSimpArgs false
open Go.RowKit Go.Shelf

/-- the three boxes, as they lie -/
def Trio (w W : World) (i1 : Int) (n1 u1 h1 r1 a1 : ByteArray) (o1 d1 : Bool) (si1 sp1 : Int) (i2 : Int) (n2 u2 h2 r2 a2 : ByteArray) (o2 d2 : Bool) (si2 sp2 : Int) (i3 : Int) (op vo : Bool) : Prop := W.cell? ⟨w.heap.size, 0, none⟩ = some (.int .i64 i1) ∧ W.cell? ⟨w.heap.size, 1, none⟩ = some (.string n1) ∧ W.cell? ⟨w.heap.size, 2, none⟩ = some (.string u1) ∧ W.cell? ⟨w.heap.size, 3, none⟩ = some (.string h1) ∧ W.cell? ⟨w.heap.size, 4, none⟩ = some (.string r1) ∧ W.cell? ⟨w.heap.size, 5, none⟩ = some (.string a1) ∧ W.cell? ⟨w.heap.size, 6, none⟩ = some (.bool o1) ∧ W.cell? ⟨w.heap.size, 7, none⟩ = some (.bool d1) ∧ W.cell? ⟨w.heap.size, 8, none⟩ = some (.int .i64 si1) ∧ W.cell? ⟨w.heap.size, 9, none⟩ = some (.int .i64 sp1) ∧ W.cell? ⟨w.heap.size + 1, 0, none⟩ = some (.int .i64 i2) ∧ W.cell? ⟨w.heap.size + 1, 1, none⟩ = some (.string n2) ∧ W.cell? ⟨w.heap.size + 1, 2, none⟩ = some (.string u2) ∧ W.cell? ⟨w.heap.size + 1, 3, none⟩ = some (.string h2) ∧ W.cell? ⟨w.heap.size + 1, 4, none⟩ = some (.string r2) ∧ W.cell? ⟨w.heap.size + 1, 5, none⟩ = some (.string a2) ∧ W.cell? ⟨w.heap.size + 1, 6, none⟩ = some (.bool o2) ∧ W.cell? ⟨w.heap.size + 1, 7, none⟩ = some (.bool d2) ∧ W.cell? ⟨w.heap.size + 1, 8, none⟩ = some (.int .i64 si2) ∧ W.cell? ⟨w.heap.size + 1, 9, none⟩ = some (.int .i64 sp2) ∧ W.cell? ⟨w.heap.size + 1 + 1, 0, none⟩ = some (.int .i64 i3) ∧ W.cell? ⟨w.heap.size + 1 + 1, 1, none⟩ = some (.bool op) ∧ W.cell? ⟨w.heap.size + 1 + 1, 2, none⟩ = some (.bool vo) ∧ w.heap.size + 1 + 1 + 1 ≤ W.heap.size
theorem Trio.kept {i1 : Int} {n1 u1 h1 r1 a1 : ByteArray} {o1 d1 : Bool} {si1 sp1 : Int} {i2 : Int} {n2 u2 h2 r2 a2 : ByteArray} {o2 d2 : Bool} {si2 sp2 : Int} {i3 : Int} {op vo : Bool} {w W W' : World} (k : Trio w W i1 n1 u1 h1 r1 a1 o1 d1 si1 sp1 i2 n2 u2 h2 r2 a2 o2 d2 si2 sp2 i3 op vo) (hb : Below (w.heap.size + 1 + 1 + 1) W W') : Trio w W' i1 n1 u1 h1 r1 a1 o1 d1 si1 sp1 i2 n2 u2 h2 r2 a2 o2 d2 si2 sp2 i3 op vo := by
  obtain ⟨c0, c1, c2, c3, c4, c5, c6, c7, c8, c9, c10, c11, c12, c13, c14, c15, c16, c17, c18, c19, c20, c21, c22, hz⟩ := k
  exact ⟨(hb.cell (p := ⟨w.heap.size, 0, none⟩) (show w.heap.size < w.heap.size + 1 + 1 + 1 by omega)).trans c0, (hb.cell (p := ⟨w.heap.size, 1, none⟩) (show w.heap.size < w.heap.size + 1 + 1 + 1 by omega)).trans c1, (hb.cell (p := ⟨w.heap.size, 2, none⟩) (show w.heap.size < w.heap.size + 1 + 1 + 1 by omega)).trans c2, (hb.cell (p := ⟨w.heap.size, 3, none⟩) (show w.heap.size < w.heap.size + 1 + 1 + 1 by omega)).trans c3, (hb.cell (p := ⟨w.heap.size, 4, none⟩) (show w.heap.size < w.heap.size + 1 + 1 + 1 by omega)).trans c4, (hb.cell (p := ⟨w.heap.size, 5, none⟩) (show w.heap.size < w.heap.size + 1 + 1 + 1 by omega)).trans c5, (hb.cell (p := ⟨w.heap.size, 6, none⟩) (show w.heap.size < w.heap.size + 1 + 1 + 1 by omega)).trans c6, (hb.cell (p := ⟨w.heap.size, 7, none⟩) (show w.heap.size < w.heap.size + 1 + 1 + 1 by omega)).trans c7, (hb.cell (p := ⟨w.heap.size, 8, none⟩) (show w.heap.size < w.heap.size + 1 + 1 + 1 by omega)).trans c8, (hb.cell (p := ⟨w.heap.size, 9, none⟩) (show w.heap.size < w.heap.size + 1 + 1 + 1 by omega)).trans c9, (hb.cell (p := ⟨w.heap.size + 1, 0, none⟩) (show w.heap.size + 1 < w.heap.size + 1 + 1 + 1 by omega)).trans c10, (hb.cell (p := ⟨w.heap.size + 1, 1, none⟩) (show w.heap.size + 1 < w.heap.size + 1 + 1 + 1 by omega)).trans c11, (hb.cell (p := ⟨w.heap.size + 1, 2, none⟩) (show w.heap.size + 1 < w.heap.size + 1 + 1 + 1 by omega)).trans c12, (hb.cell (p := ⟨w.heap.size + 1, 3, none⟩) (show w.heap.size + 1 < w.heap.size + 1 + 1 + 1 by omega)).trans c13, (hb.cell (p := ⟨w.heap.size + 1, 4, none⟩) (show w.heap.size + 1 < w.heap.size + 1 + 1 + 1 by omega)).trans c14, (hb.cell (p := ⟨w.heap.size + 1, 5, none⟩) (show w.heap.size + 1 < w.heap.size + 1 + 1 + 1 by omega)).trans c15, (hb.cell (p := ⟨w.heap.size + 1, 6, none⟩) (show w.heap.size + 1 < w.heap.size + 1 + 1 + 1 by omega)).trans c16, (hb.cell (p := ⟨w.heap.size + 1, 7, none⟩) (show w.heap.size + 1 < w.heap.size + 1 + 1 + 1 by omega)).trans c17, (hb.cell (p := ⟨w.heap.size + 1, 8, none⟩) (show w.heap.size + 1 < w.heap.size + 1 + 1 + 1 by omega)).trans c18, (hb.cell (p := ⟨w.heap.size + 1, 9, none⟩) (show w.heap.size + 1 < w.heap.size + 1 + 1 + 1 by omega)).trans c19, (hb.cell (p := ⟨w.heap.size + 1 + 1, 0, none⟩) (show w.heap.size + 1 + 1 < w.heap.size + 1 + 1 + 1 by omega)).trans c20, (hb.cell (p := ⟨w.heap.size + 1 + 1, 1, none⟩) (show w.heap.size + 1 + 1 < w.heap.size + 1 + 1 + 1 by omega)).trans c21, (hb.cell (p := ⟨w.heap.size + 1 + 1, 2, none⟩) (show w.heap.size + 1 + 1 < w.heap.size + 1 + 1 + 1 by omega)).trans c22, Nat.le_trans hz hb.size⟩
set_option maxRecDepth 100000 in
set_option maxHeartbeats 16000000 in
theorem personSeen_main (i1 : Int) (n1 u1 h1 r1 a1 : ByteArray) (o1 d1 : Bool) (si1 sp1 : Int) (i2 : Int) (n2 u2 h2 r2 a2 : ByteArray) (o2 d2 : Bool) (si2 sp2 : Int) (i3 : Int) (op vo : Bool) (mask : ByteArray) (w : World) (hg : ¬ (200 < n2.size ∨ 200 < u2.size ∨ 200 < h2.size ∨ 200 < r2.size ∨ 200 < a2.size)) (hm : mask.size ≤ 30) :
    Calls Tryd.prog 4 #[per i1 n1 u1 h1 r1 a1 o1 d1 si1 sp1, per i2 n2 u2 h2 r2 a2 o2 d2 si2 sp2, memb i3 op vo, .string mask] w fun e w' => e = .returned (.bool true) ∧ Below w.heap.size w w' := by
  obtain ⟨sv, hsv⟩ : ∃ sv : Bool → Bool, ∀ c, (!d2 || c || o1 || i1 == i2) = sv c := ⟨_, fun _ => rfl⟩
  obtain ⟨mv, hmv⟩ : ∃ mv : Bool → ByteArray, ∀ c, marksB op vo c = mv c := ⟨_, fun _ => rfl⟩
  have K1 : ∀ c W, w.heap.size + 1 + 1 + 1 ≤ W.heap.size → Calls Tryd.prog 12 #[.agg #[.int .i64 i1, .string n1, .string u1, .string h1, .string r1, .string a1, .bool o1, .bool d1, .int .i64 si1, .int .i64 sp1], .agg #[.int .i64 i2, .string n2, .string u2, .string h2, .string r2, .string a2, .bool o2, .bool d2, .int .i64 si2, .int .i64 sp2], .bool c] W fun e w' => e = .returned (.bool (sv c)) ∧ w.heap.size + 1 + 1 + 1 ≤ w'.heap.size ∧ ((∀ o, w'.cell? ⟨w.heap.size, o, none⟩ = W.cell? ⟨w.heap.size, o, none⟩) ∧ (∀ o, w'.cell? ⟨w.heap.size + 1, o, none⟩ = W.cell? ⟨w.heap.size + 1, o, none⟩) ∧ ∀ o, w'.cell? ⟨w.heap.size + 1 + 1, o, none⟩ = W.cell? ⟨w.heap.size + 1 + 1, o, none⟩) ∧ Below (w.heap.size + 1 + 1 + 1) W w' := fun c W hW => (seen_any i1 i2 n1 u1 h1 r1 a1 n2 u2 h2 r2 a2 o1 d1 o2 d2 c si1 sp1 si2 sp2 W).mono fun e w' k => ⟨by rw [k.1, hsv], Nat.le_trans hW k.2.size, ⟨fun o => k.2.cell (p := ⟨w.heap.size, o, none⟩) (show w.heap.size < W.heap.size by omega), fun o => k.2.cell (p := ⟨w.heap.size + 1, o, none⟩) (show w.heap.size + 1 < W.heap.size by omega), fun o => k.2.cell (p := ⟨w.heap.size + 1 + 1, o, none⟩) (show w.heap.size + 1 + 1 < W.heap.size by omega)⟩, k.2.mono hW⟩
  have K2 : ∀ c W, w.heap.size + 1 + 1 + 1 ≤ W.heap.size → Calls Tryd.prog 13 #[.agg #[.int .i64 i1, .string n1, .string u1, .string h1, .string r1, .string a1, .bool o1, .bool d1, .int .i64 si1, .int .i64 sp1], .agg #[.int .i64 i2, .string n2, .string u2, .string h2, .string r2, .string a2, .bool o2, .bool d2, .int .i64 si2, .int .i64 sp2], .bool c] W fun e w' => e = .returned (.bool (sv c)) ∧ w.heap.size + 1 + 1 + 1 ≤ w'.heap.size ∧ ((∀ o, w'.cell? ⟨w.heap.size, o, none⟩ = W.cell? ⟨w.heap.size, o, none⟩) ∧ (∀ o, w'.cell? ⟨w.heap.size + 1, o, none⟩ = W.cell? ⟨w.heap.size + 1, o, none⟩) ∧ ∀ o, w'.cell? ⟨w.heap.size + 1 + 1, o, none⟩ = W.cell? ⟨w.heap.size + 1 + 1, o, none⟩) ∧ Below (w.heap.size + 1 + 1 + 1) W w' := fun c W hW => (rseen_any i1 i2 n1 u1 h1 r1 a1 n2 u2 h2 r2 a2 o1 d1 o2 d2 c si1 sp1 si2 sp2 W).mono fun e w' k => ⟨by rw [k.1, hsv], Nat.le_trans hW k.2.size, ⟨fun o => k.2.cell (p := ⟨w.heap.size, o, none⟩) (show w.heap.size < W.heap.size by omega), fun o => k.2.cell (p := ⟨w.heap.size + 1, o, none⟩) (show w.heap.size + 1 < W.heap.size by omega), fun o => k.2.cell (p := ⟨w.heap.size + 1 + 1, o, none⟩) (show w.heap.size + 1 + 1 < W.heap.size by omega)⟩, k.2.mono hW⟩
  have K3 : ∀ c W, w.heap.size + 1 + 1 + 1 ≤ W.heap.size → Calls Tryd.prog 14 #[.agg #[.int .i64 i3, .bool op, .bool vo], .bool c] W fun e w' => e = .returned (.string (mv c)) ∧ w.heap.size + 1 + 1 + 1 ≤ w'.heap.size ∧ ((∀ o, w'.cell? ⟨w.heap.size, o, none⟩ = W.cell? ⟨w.heap.size, o, none⟩) ∧ (∀ o, w'.cell? ⟨w.heap.size + 1, o, none⟩ = W.cell? ⟨w.heap.size + 1, o, none⟩) ∧ ∀ o, w'.cell? ⟨w.heap.size + 1 + 1, o, none⟩ = W.cell? ⟨w.heap.size + 1 + 1, o, none⟩) ∧ Below (w.heap.size + 1 + 1 + 1) W w' := fun c W hW => (marks_any i3 op vo c W).mono fun e w' k => ⟨by rw [k.1, hmv], Nat.le_trans hW k.2.size, ⟨fun o => k.2.cell (p := ⟨w.heap.size, o, none⟩) (show w.heap.size < W.heap.size by omega), fun o => k.2.cell (p := ⟨w.heap.size + 1, o, none⟩) (show w.heap.size + 1 < W.heap.size by omega), fun o => k.2.cell (p := ⟨w.heap.size + 1 + 1, o, none⟩) (show w.heap.size + 1 + 1 < W.heap.size by omega)⟩, k.2.mono hW⟩
  have K4 : ∀ c W, w.heap.size + 1 + 1 + 1 ≤ W.heap.size → Calls Tryd.prog 15 #[.agg #[.int .i64 i3, .bool op, .bool vo], .bool c] W fun e w' => e = .returned (.string (mv c)) ∧ w.heap.size + 1 + 1 + 1 ≤ w'.heap.size ∧ ((∀ o, w'.cell? ⟨w.heap.size, o, none⟩ = W.cell? ⟨w.heap.size, o, none⟩) ∧ (∀ o, w'.cell? ⟨w.heap.size + 1, o, none⟩ = W.cell? ⟨w.heap.size + 1, o, none⟩) ∧ ∀ o, w'.cell? ⟨w.heap.size + 1 + 1, o, none⟩ = W.cell? ⟨w.heap.size + 1 + 1, o, none⟩) ∧ Below (w.heap.size + 1 + 1 + 1) W w' := fun c W hW => (rmarks_any i3 op vo c W).mono fun e w' k => ⟨by rw [k.1, hmv], Nat.le_trans hW k.2.size, ⟨fun o => k.2.cell (p := ⟨w.heap.size, o, none⟩) (show w.heap.size < W.heap.size by omega), fun o => k.2.cell (p := ⟨w.heap.size + 1, o, none⟩) (show w.heap.size + 1 < W.heap.size by omega), fun o => k.2.cell (p := ⟨w.heap.size + 1 + 1, o, none⟩) (show w.heap.size + 1 + 1 < W.heap.size by omega)⟩, k.2.mono hW⟩
  have g1 : n2.size ≤ 200 := by omega
  have g2 : u2.size ≤ 200 := by omega
  have g3 : h2.size ≤ 200 := by omega
  have K5 : ∀ W, w.heap.size + 1 + 1 + 1 ≤ W.heap.size → Calls Tryd.prog 16 #[.agg #[.int .i64 i2, .string n2, .string u2, .string h2, .string r2, .string a2, .bool o2, .bool d2, .int .i64 si2, .int .i64 sp2]] W fun e w' => e = .returned (.string (n2 ++ ⟨#[33]⟩ ++ u2 ++ ⟨#[64]⟩ ++ h2)) ∧ w.heap.size + 1 + 1 + 1 ≤ w'.heap.size ∧ ((∀ o, w'.cell? ⟨w.heap.size, o, none⟩ = W.cell? ⟨w.heap.size, o, none⟩) ∧ (∀ o, w'.cell? ⟨w.heap.size + 1, o, none⟩ = W.cell? ⟨w.heap.size + 1, o, none⟩) ∧ ∀ o, w'.cell? ⟨w.heap.size + 1 + 1, o, none⟩ = W.cell? ⟨w.heap.size + 1 + 1, o, none⟩) ∧ Below (w.heap.size + 1 + 1 + 1) W w' := fun W hW => (who_any i2 n2 u2 h2 r2 a2 o2 d2 si2 sp2 W g1 g2 g3).mono fun e w' k => ⟨by rw [k.1, whoB], Nat.le_trans hW k.2.size, ⟨fun o => k.2.cell (p := ⟨w.heap.size, o, none⟩) (show w.heap.size < W.heap.size by omega), fun o => k.2.cell (p := ⟨w.heap.size + 1, o, none⟩) (show w.heap.size + 1 < W.heap.size by omega), fun o => k.2.cell (p := ⟨w.heap.size + 1 + 1, o, none⟩) (show w.heap.size + 1 + 1 < W.heap.size by omega)⟩, k.2.mono hW⟩
  obtain ⟨mb, hmb⟩ : ∃ mb, meetB mask n2 u2 h2 = mb := ⟨_, rfl⟩
  obtain ⟨uh, huh⟩ : ∃ uh, hostB n2 u2 h2 o2 a2.toList.isEmpty = uh := ⟨_, rfl⟩
  have K6 : ∀ W, w.heap.size + 1 + 1 + 1 ≤ W.heap.size → Calls Tryd.prog 17 #[.string mask, .agg #[.int .i64 i2, .string n2, .string u2, .string h2, .string r2, .string a2, .bool o2, .bool d2, .int .i64 si2, .int .i64 sp2]] W fun e w' => e = .returned (.bool mb) ∧ w.heap.size + 1 + 1 + 1 ≤ w'.heap.size ∧ ((∀ o, w'.cell? ⟨w.heap.size, o, none⟩ = W.cell? ⟨w.heap.size, o, none⟩) ∧ (∀ o, w'.cell? ⟨w.heap.size + 1, o, none⟩ = W.cell? ⟨w.heap.size + 1, o, none⟩) ∧ ∀ o, w'.cell? ⟨w.heap.size + 1 + 1, o, none⟩ = W.cell? ⟨w.heap.size + 1 + 1, o, none⟩) ∧ Below (w.heap.size + 1 + 1 + 1) W w' := fun W hW => (meets22 mask i2 n2 u2 h2 r2 a2 o2 d2 si2 sp2 W (by omega) (by omega) (by omega) (by omega)).mono fun e w' k => ⟨by rw [k.1, hmb], Nat.le_trans hW k.2.size, ⟨fun o => k.2.cell (p := ⟨w.heap.size, o, none⟩) (show w.heap.size < W.heap.size by omega), fun o => k.2.cell (p := ⟨w.heap.size + 1, o, none⟩) (show w.heap.size + 1 < W.heap.size by omega), fun o => k.2.cell (p := ⟨w.heap.size + 1 + 1, o, none⟩) (show w.heap.size + 1 + 1 < W.heap.size by omega)⟩, k.2.mono hW⟩
  have K7 : ∀ W, w.heap.size + 1 + 1 + 1 ≤ W.heap.size → Calls Tryd.prog 18 #[.string mask, .agg #[.int .i64 i2, .string n2, .string u2, .string h2, .string r2, .string a2, .bool o2, .bool d2, .int .i64 si2, .int .i64 sp2]] W fun e w' => e = .returned (.bool mb) ∧ w.heap.size + 1 + 1 + 1 ≤ w'.heap.size ∧ ((∀ o, w'.cell? ⟨w.heap.size, o, none⟩ = W.cell? ⟨w.heap.size, o, none⟩) ∧ (∀ o, w'.cell? ⟨w.heap.size + 1, o, none⟩ = W.cell? ⟨w.heap.size + 1, o, none⟩) ∧ ∀ o, w'.cell? ⟨w.heap.size + 1 + 1, o, none⟩ = W.cell? ⟨w.heap.size + 1 + 1, o, none⟩) ∧ Below (w.heap.size + 1 + 1 + 1) W w' := fun W hW => (rmeets22 mask i2 n2 u2 h2 r2 a2 o2 d2 si2 sp2 W (by omega) (by omega) (by omega) (by omega)).mono fun e w' k => ⟨by rw [k.1, hmb], Nat.le_trans hW k.2.size, ⟨fun o => k.2.cell (p := ⟨w.heap.size, o, none⟩) (show w.heap.size < W.heap.size by omega), fun o => k.2.cell (p := ⟨w.heap.size + 1, o, none⟩) (show w.heap.size + 1 < W.heap.size by omega), fun o => k.2.cell (p := ⟨w.heap.size + 1 + 1, o, none⟩) (show w.heap.size + 1 + 1 < W.heap.size by omega)⟩, k.2.mono hW⟩
  have K8 : ∀ W, w.heap.size + 1 + 1 + 1 ≤ W.heap.size → Calls Tryd.prog 19 #[.agg #[.int .i64 i2, .string n2, .string u2, .string h2, .string r2, .string a2, .bool o2, .bool d2, .int .i64 si2, .int .i64 sp2]] W fun e w' => e = .returned (.string uh) ∧ w.heap.size + 1 + 1 + 1 ≤ w'.heap.size ∧ ((∀ o, w'.cell? ⟨w.heap.size, o, none⟩ = W.cell? ⟨w.heap.size, o, none⟩) ∧ (∀ o, w'.cell? ⟨w.heap.size + 1, o, none⟩ = W.cell? ⟨w.heap.size + 1, o, none⟩) ∧ ∀ o, w'.cell? ⟨w.heap.size + 1 + 1, o, none⟩ = W.cell? ⟨w.heap.size + 1 + 1, o, none⟩) ∧ Below (w.heap.size + 1 + 1 + 1) W w' := fun W hW => (userhost_any i2 n2 u2 h2 r2 a2 o2 d2 si2 sp2 W g1 g2 g3).mono fun e w' k => ⟨by rw [k.1, huh], Nat.le_trans hW k.2.size, ⟨fun o => k.2.cell (p := ⟨w.heap.size, o, none⟩) (show w.heap.size < W.heap.size by omega), fun o => k.2.cell (p := ⟨w.heap.size + 1, o, none⟩) (show w.heap.size + 1 < W.heap.size by omega), fun o => k.2.cell (p := ⟨w.heap.size + 1 + 1, o, none⟩) (show w.heap.size + 1 + 1 < W.heap.size by omega)⟩, k.2.mono hW⟩
  have K9 : ∀ W, w.heap.size + 1 + 1 + 1 ≤ W.heap.size → Calls Tryd.prog 20 #[.agg #[.int .i64 i2, .string n2, .string u2, .string h2, .string r2, .string a2, .bool o2, .bool d2, .int .i64 si2, .int .i64 sp2]] W fun e w' => e = .returned (.string uh) ∧ w.heap.size + 1 + 1 + 1 ≤ w'.heap.size ∧ ((∀ o, w'.cell? ⟨w.heap.size, o, none⟩ = W.cell? ⟨w.heap.size, o, none⟩) ∧ (∀ o, w'.cell? ⟨w.heap.size + 1, o, none⟩ = W.cell? ⟨w.heap.size + 1, o, none⟩) ∧ ∀ o, w'.cell? ⟨w.heap.size + 1 + 1, o, none⟩ = W.cell? ⟨w.heap.size + 1 + 1, o, none⟩) ∧ Below (w.heap.size + 1 + 1 + 1) W w' := fun W hW => (ruserhost_any i2 n2 u2 h2 r2 a2 o2 d2 si2 sp2 W g1 g2 g3).mono fun e w' k => ⟨by rw [k.1, huh], Nat.le_trans hW k.2.size, ⟨fun o => k.2.cell (p := ⟨w.heap.size, o, none⟩) (show w.heap.size < W.heap.size by omega), fun o => k.2.cell (p := ⟨w.heap.size + 1, o, none⟩) (show w.heap.size + 1 < W.heap.size by omega), fun o => k.2.cell (p := ⟨w.heap.size + 1 + 1, o, none⟩) (show w.heap.size + 1 + 1 < W.heap.size by omega)⟩, k.2.mono hW⟩
  have G : ∀ W, Calls Tryd.prog 11 #[.agg #[.int .i64 i2, .string n2, .string u2, .string h2, .string r2, .string a2, .bool o2, .bool d2, .int .i64 si2, .int .i64 sp2]] W fun e w' => e = .returned (.bool false) ∧ Below W.heap.size W w' := fun W => (great22 i2 n2 u2 h2 r2 a2 o2 d2 si2 sp2 W).mono fun e w' k => ⟨by rw [k.1, decide_eq_false hg], k.2⟩
  have km : ¬ (30 : Int) < mask.size := by omega
  clear hg hm hsv hmv
  have H5 := Lib.hid K5
  have H6 := Lib.hid K6
  have H7 := Lib.hid K7
  have H8 := Lib.hid K8
  have H9 := Lib.hid K9
  clear K5 K6 K7 K8 K9 hmb huh
  have HG := Lib.hid G
  have H1 := Lib.hid K1
  have H2 := Lib.hid K2
  have H3 := Lib.hid K3
  have H4 := Lib.hid K4
  clear G K1 K2 K3 K4
  unfold per memb
  have hq := Box10.new w i1 n1 u1 h1 r1 a1 o1 d1 si1 sp1 26
  have HQ1 := Lib.hid hq
  clear hq
  have hq := Box10.new (w.alloc (.cells #[.int .i64 i1, .string n1, .string u1, .string h1, .string r1, .string a1, .bool o1, .bool d1, .int .i64 si1, .int .i64 sp1] 26)) i2 n2 u2 h2 r2 a2 o2 d2 si2 sp2 26
  have HQ2 := Lib.hid hq
  clear hq
  have hq := fun j => cell_of_row _ _ j _ _ _ (heap_alloc_new ((w.alloc (.cells #[.int .i64 i1, .string n1, .string u1, .string h1, .string r1, .string a1, .bool o1, .bool d1, .int .i64 si1, .int .i64 sp1] 26)).alloc (.cells #[.int .i64 i2, .string n2, .string u2, .string h2, .string r2, .string a2, .bool o2, .bool d2, .int .i64 si2, .int .i64 sp2] 26)) (.cells #[.int .i64 i3, .bool op, .bool vo] 28))
  have HQ3 := Lib.hid hq
  clear hq
  go_enter Tryd.func4, Tryd.ntmps4
  go_wp2_with fail
  refine (awake22 _).mono ?_
  rintro e w1 ⟨rfl, q1⟩
  have hb : Trio w w1 i1 n1 u1 h1 r1 a1 o1 d1 si1 sp1 i2 n2 u2 h2 r2 a2 o2 d2 si2 sp2 i3 op vo := by
    have k1 := HQ1.out
    have k2 := HQ2.out
    have k3 := HQ3.out
    rw [World.size_alloc] at k2
    rw [World.size_alloc, World.size_alloc] at k3
    have z1 := ((k1.kept (m := w.heap.size + 1) (by omega) ((Below.refl _ _).alloc (by simp) _)).kept (m := w.heap.size + 2) (by omega) ((Below.refl _ _).alloc (by simp) _)).kept (m := w.heap.size + 1 + 1 + 1) (by omega) (by simpa using q1)
    have z2 := (k2.kept (m := w.heap.size + 2) (by omega) ((Below.refl _ _).alloc (by simp) _)).kept (m := w.heap.size + 1 + 1 + 1) (by omega) (by simpa using q1)
    have z3 := fun j => (q1.cell (p := ⟨w.heap.size + 1 + 1, j, none⟩) (by simp)).trans (k3 j)
    obtain ⟨a0, a1, a2, a3, a4, a5, a6, a7, a8, a9⟩ := z1
    obtain ⟨b0, b1, b2, b3, b4, b5, b6, b7, b8, b9⟩ := z2
    exact ⟨a0, a1, a2, a3, a4, a5, a6, a7, a8, a9, b0, b1, b2, b3, b4, b5, b6, b7, b8, b9, z3 0, z3 1, z3 2, by simpa using q1.size⟩
  have HT := Lib.hid hb
  obtain ⟨c0, c1, c2, c3, c4, c5, c6, c7, c8, c9, c10, c11, c12, c13, c14, c15, c16, c17, c18, c19, c20, c21, c22, hz⟩ := hb
  have hq3 : Below w.heap.size w w1 := (((Below.refl _ w).alloc (Nat.le_refl _) _).alloc (by simp) _).alloc (by simp; omega) _ |>.trans (q1.mono (by simp; omega))
  have HQ := Lib.hid hq3
  clear q1 hq3
  go_wp2_with fail
  refine (HG.out _).mono ?_
  rintro e w2 ⟨rfl, q2⟩
  have HT2 := Lib.hid (HT.out.kept (q2.mono hz))
  have HQ2' := Lib.hid (HQ.out.trans (q2.mono (by omega)))
  clear c0 c1 c2 c3 c4 c5 c6 c7 c8 c9 c10 c11 c12 c13 c14 c15 c16 c17 c18 c19 c20 c21 c22 hz q2
  go_wp2_with fail
  go_loopw [9, 10] (fun i y wr => ∃ k : Nat, i = .int .i64 k ∧ k ≤ 2 ∧ Hid (Trio w wr i1 n1 u1 h1 r1 a1 o1 d1 si1 sp1 i2 n2 u2 h2 r2 a2 o2 d2 si2 sp2 i3 op vo) ∧ Hid (Below w.heap.size w wr)) (fun i _ _ => 2 - (intOf i).toNat)
  case atStart => exact ⟨0, rfl, by omega, HT2, HQ2'⟩
  case round =>
    obtain ⟨k, rfl, hk, HT3, HQ3'⟩ := hrel
    have hc : k = 0 ∨ k = 1 ∨ k = 2 := by omega
    rcases hc with rfl | rfl | rfl
    · obtain ⟨c0, c1, c2, c3, c4, c5, c6, c7, c8, c9, c10, c11, c12, c13, c14, c15, c16, c17, c18, c19, c20, c21, c22, hz⟩ := HT3.out
      have J1 := H1.out false
      have J2 := H2.out false
      have J3 := H3.out false
      have J4 := H4.out false
      go_wp2_with fail
      go_region_held3 (fun w' => w'.cell? ⟨w.heap.size, 0, none⟩ = some (.int .i64 i1) ∧ w'.cell? ⟨w.heap.size, 1, none⟩ = some (.string n1) ∧ w'.cell? ⟨w.heap.size, 2, none⟩ = some (.string u1) ∧ w'.cell? ⟨w.heap.size, 3, none⟩ = some (.string h1) ∧ w'.cell? ⟨w.heap.size, 4, none⟩ = some (.string r1) ∧ w'.cell? ⟨w.heap.size, 5, none⟩ = some (.string a1) ∧ w'.cell? ⟨w.heap.size, 6, none⟩ = some (.bool o1) ∧ w'.cell? ⟨w.heap.size, 7, none⟩ = some (.bool d1) ∧ w'.cell? ⟨w.heap.size, 8, none⟩ = some (.int .i64 si1) ∧ w'.cell? ⟨w.heap.size, 9, none⟩ = some (.int .i64 sp1) ∧ w'.cell? ⟨w.heap.size + 1, 0, none⟩ = some (.int .i64 i2) ∧ w'.cell? ⟨w.heap.size + 1, 1, none⟩ = some (.string n2) ∧ w'.cell? ⟨w.heap.size + 1, 2, none⟩ = some (.string u2) ∧ w'.cell? ⟨w.heap.size + 1, 3, none⟩ = some (.string h2) ∧ w'.cell? ⟨w.heap.size + 1, 4, none⟩ = some (.string r2) ∧ w'.cell? ⟨w.heap.size + 1, 5, none⟩ = some (.string a2) ∧ w'.cell? ⟨w.heap.size + 1, 6, none⟩ = some (.bool o2) ∧ w'.cell? ⟨w.heap.size + 1, 7, none⟩ = some (.bool d2) ∧ w'.cell? ⟨w.heap.size + 1, 8, none⟩ = some (.int .i64 si2) ∧ w'.cell? ⟨w.heap.size + 1, 9, none⟩ = some (.int .i64 sp2) ∧ w'.cell? ⟨w.heap.size + 1 + 1, 0, none⟩ = some (.int .i64 i3) ∧ w'.cell? ⟨w.heap.size + 1 + 1, 1, none⟩ = some (.bool op) ∧ w'.cell? ⟨w.heap.size + 1 + 1, 2, none⟩ = some (.bool vo) ∧ w.heap.size + 1 + 1 + 1 ≤ w'.heap.size) (go_keep)
        (first | (go_at_call 12; refine (J1 _ ?_).mono ?_; (first | assumption | simp [*]); rintro e w3 ⟨rfl, q2, ⟨q3, q3a, q3b⟩, q4⟩) | (go_at_call 13; refine (J2 _ ?_).mono ?_; (first | assumption | simp [*]); rintro e w4 ⟨rfl, q5, ⟨q6, q6a, q6b⟩, q7⟩) | (go_at_call 14; refine (J3 _ ?_).mono ?_; (first | assumption | simp [*]); rintro e w5 ⟨rfl, q8, ⟨q9, q9a, q9b⟩, q10⟩) | (go_at_call 15; refine (J4 _ ?_).mono ?_; (first | assumption | simp [*]); rintro e w6 ⟨rfl, q11, ⟨q12, q12a, q12b⟩, q13⟩))
      all_goals
        have qa := ((((Below.refl (w.heap.size + 1 + 1 + 1) wr).drew.trans q4).trans q7).trans q10).trans q13
        have HT4 := Lib.hid (HT3.out.kept qa)
        have HQ4 := Lib.hid (HQ3'.out.trans (qa.mono (by omega)))
        clear q2 q3 q3a q3b q4 q5 q6 q6a q6b q7 q8 q9 q9a q9b q10 q11 q12 q12a q12b q13 qa
        go_wp2_with fail
        go_roundw
        case rel => exact ⟨1, by go_num, by omega, HT4, HQ4⟩
        case measure => simp [intOf]
    · obtain ⟨c0, c1, c2, c3, c4, c5, c6, c7, c8, c9, c10, c11, c12, c13, c14, c15, c16, c17, c18, c19, c20, c21, c22, hz⟩ := HT3.out
      have J1 := H1.out true
      have J2 := H2.out true
      have J3 := H3.out true
      have J4 := H4.out true
      go_wp2_with fail
      go_region_held3 (fun w' => w'.cell? ⟨w.heap.size, 0, none⟩ = some (.int .i64 i1) ∧ w'.cell? ⟨w.heap.size, 1, none⟩ = some (.string n1) ∧ w'.cell? ⟨w.heap.size, 2, none⟩ = some (.string u1) ∧ w'.cell? ⟨w.heap.size, 3, none⟩ = some (.string h1) ∧ w'.cell? ⟨w.heap.size, 4, none⟩ = some (.string r1) ∧ w'.cell? ⟨w.heap.size, 5, none⟩ = some (.string a1) ∧ w'.cell? ⟨w.heap.size, 6, none⟩ = some (.bool o1) ∧ w'.cell? ⟨w.heap.size, 7, none⟩ = some (.bool d1) ∧ w'.cell? ⟨w.heap.size, 8, none⟩ = some (.int .i64 si1) ∧ w'.cell? ⟨w.heap.size, 9, none⟩ = some (.int .i64 sp1) ∧ w'.cell? ⟨w.heap.size + 1, 0, none⟩ = some (.int .i64 i2) ∧ w'.cell? ⟨w.heap.size + 1, 1, none⟩ = some (.string n2) ∧ w'.cell? ⟨w.heap.size + 1, 2, none⟩ = some (.string u2) ∧ w'.cell? ⟨w.heap.size + 1, 3, none⟩ = some (.string h2) ∧ w'.cell? ⟨w.heap.size + 1, 4, none⟩ = some (.string r2) ∧ w'.cell? ⟨w.heap.size + 1, 5, none⟩ = some (.string a2) ∧ w'.cell? ⟨w.heap.size + 1, 6, none⟩ = some (.bool o2) ∧ w'.cell? ⟨w.heap.size + 1, 7, none⟩ = some (.bool d2) ∧ w'.cell? ⟨w.heap.size + 1, 8, none⟩ = some (.int .i64 si2) ∧ w'.cell? ⟨w.heap.size + 1, 9, none⟩ = some (.int .i64 sp2) ∧ w'.cell? ⟨w.heap.size + 1 + 1, 0, none⟩ = some (.int .i64 i3) ∧ w'.cell? ⟨w.heap.size + 1 + 1, 1, none⟩ = some (.bool op) ∧ w'.cell? ⟨w.heap.size + 1 + 1, 2, none⟩ = some (.bool vo) ∧ w.heap.size + 1 + 1 + 1 ≤ w'.heap.size) (go_keep)
        (first | (go_at_call 12; refine (J1 _ ?_).mono ?_; (first | assumption | simp [*]); rintro e w3 ⟨rfl, q2, ⟨q3, q3a, q3b⟩, q4⟩) | (go_at_call 13; refine (J2 _ ?_).mono ?_; (first | assumption | simp [*]); rintro e w4 ⟨rfl, q5, ⟨q6, q6a, q6b⟩, q7⟩) | (go_at_call 14; refine (J3 _ ?_).mono ?_; (first | assumption | simp [*]); rintro e w5 ⟨rfl, q8, ⟨q9, q9a, q9b⟩, q10⟩) | (go_at_call 15; refine (J4 _ ?_).mono ?_; (first | assumption | simp [*]); rintro e w6 ⟨rfl, q11, ⟨q12, q12a, q12b⟩, q13⟩))
      all_goals
        have qa := ((((Below.refl (w.heap.size + 1 + 1 + 1) wr).drew.trans q4).trans q7).trans q10).trans q13
        have HT4 := Lib.hid (HT3.out.kept qa)
        have HQ4 := Lib.hid (HQ3'.out.trans (qa.mono (by omega)))
        clear q2 q3 q3a q3b q4 q5 q6 q6a q6b q7 q8 q9 q9a q9b q10 q11 q12 q12a q12b q13 qa
        go_wp2_with fail
        go_roundw
        case rel => exact ⟨2, by go_num, by omega, HT4, HQ4⟩
        case measure => simp [intOf]
    · obtain ⟨c0, c1, c2, c3, c4, c5, c6, c7, c8, c9, c10, c11, c12, c13, c14, c15, c16, c17, c18, c19, c20, c21, c22, hz⟩ := HT3.out
      have z1 : ¬ 9223372036854775807 < n2.size + 1 := by omega
      have z2 : ¬ 9223372036854775807 ≤ n2.size := by omega
      have z3 : ¬ 9223372036854775807 < n2.size + 1 + u2.size := by omega
      have z4 : ¬ 9223372036854775807 < n2.size + 1 + u2.size + 1 := by omega
      have z5 : ¬ 9223372036854775807 ≤ n2.size + 1 + u2.size := by omega
      have z6 : ¬ 9223372036854775807 < n2.size + 1 + u2.size + 1 + h2.size := by omega
      have J5 := H5.out
      have J6 := H6.out
      have J7 := H7.out
      have J8 := H8.out
      have J9 := H9.out
      go_wp2_with fail
      go_region_held3 (fun w' => w'.cell? ⟨w.heap.size, 0, none⟩ = some (.int .i64 i1) ∧ w'.cell? ⟨w.heap.size, 1, none⟩ = some (.string n1) ∧ w'.cell? ⟨w.heap.size, 2, none⟩ = some (.string u1) ∧ w'.cell? ⟨w.heap.size, 3, none⟩ = some (.string h1) ∧ w'.cell? ⟨w.heap.size, 4, none⟩ = some (.string r1) ∧ w'.cell? ⟨w.heap.size, 5, none⟩ = some (.string a1) ∧ w'.cell? ⟨w.heap.size, 6, none⟩ = some (.bool o1) ∧ w'.cell? ⟨w.heap.size, 7, none⟩ = some (.bool d1) ∧ w'.cell? ⟨w.heap.size, 8, none⟩ = some (.int .i64 si1) ∧ w'.cell? ⟨w.heap.size, 9, none⟩ = some (.int .i64 sp1) ∧ w'.cell? ⟨w.heap.size + 1, 0, none⟩ = some (.int .i64 i2) ∧ w'.cell? ⟨w.heap.size + 1, 1, none⟩ = some (.string n2) ∧ w'.cell? ⟨w.heap.size + 1, 2, none⟩ = some (.string u2) ∧ w'.cell? ⟨w.heap.size + 1, 3, none⟩ = some (.string h2) ∧ w'.cell? ⟨w.heap.size + 1, 4, none⟩ = some (.string r2) ∧ w'.cell? ⟨w.heap.size + 1, 5, none⟩ = some (.string a2) ∧ w'.cell? ⟨w.heap.size + 1, 6, none⟩ = some (.bool o2) ∧ w'.cell? ⟨w.heap.size + 1, 7, none⟩ = some (.bool d2) ∧ w'.cell? ⟨w.heap.size + 1, 8, none⟩ = some (.int .i64 si2) ∧ w'.cell? ⟨w.heap.size + 1, 9, none⟩ = some (.int .i64 sp2) ∧ w'.cell? ⟨w.heap.size + 1 + 1, 0, none⟩ = some (.int .i64 i3) ∧ w'.cell? ⟨w.heap.size + 1 + 1, 1, none⟩ = some (.bool op) ∧ w'.cell? ⟨w.heap.size + 1 + 1, 2, none⟩ = some (.bool vo) ∧ w.heap.size + 1 + 1 + 1 ≤ w'.heap.size) (go_keep)
        (first | (go_at_call 16; refine (J5 _ ?_).mono ?_; (first | assumption | simp [*]); rintro e w3 ⟨rfl, q2, ⟨q3, q3a, q3b⟩, q4⟩) | (go_at_call 17; refine (J6 _ ?_).mono ?_; (first | assumption | simp [*]); rintro e w4 ⟨rfl, q5, ⟨q6, q6a, q6b⟩, q7⟩) | (go_at_call 18; refine (J7 _ ?_).mono ?_; (first | assumption | simp [*]); rintro e w5 ⟨rfl, q8, ⟨q9, q9a, q9b⟩, q10⟩) | (go_at_call 19; refine (J8 _ ?_).mono ?_; (first | assumption | simp [*]); rintro e w6 ⟨rfl, q11, ⟨q12, q12a, q12b⟩, q13⟩) | (go_at_call 20; refine (J9 _ ?_).mono ?_; (first | assumption | simp [*]); rintro e w7 ⟨rfl, q14, ⟨q15, q15a, q15b⟩, q16⟩))
      all_goals
        have qa := (((((Below.refl (w.heap.size + 1 + 1 + 1) wr).drew.trans q4).trans q7).trans q10).trans q13).trans q16
        have HQ4 := Lib.hid (HQ3'.out.trans (qa.mono (by omega)))
        clear q2 q3 q3a q3b q4 q5 q6 q6a q6b q7 q8 q9 q9a q9b q10 q11 q12 q12a q12b q13 q14 q15 q15a q15b q16 qa
        go_wp2_with fail
        go_ret
        exact ⟨ret_bool (by simp), HQ4.out⟩
end Go.Proofs.YteepgklilhljiaaDoor
