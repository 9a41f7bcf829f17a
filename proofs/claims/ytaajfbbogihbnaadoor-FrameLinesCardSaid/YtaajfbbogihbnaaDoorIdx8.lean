/- bytes.IndexAny of whatever bytes, among two ASCII ones. -/
import Derived.Test.YtaajfbbogihbnaaDoorByt
import Derived.Test.YtaajfbbogihbnaaDoorRuneM
import Derived.Deep.LoopGhost
import Derived.IntWalk
import Derived.Lib.IndexBytes
import Derived.Lib.OthersKept
import Derived.Lib.Walk
namespace Go.Proofs.YtaajfbbogihbnaaDoor
set_option linter.unusedVariables false
set_option linter.unusedSimpArgs false
open Go Go.RowKit

theorem idx1_no {x : UInt8} {l : List UInt8} (h : l.contains x = false) : Lib.indexAny [x] l = -1 := by unfold Lib.indexAny; rw [h]; rfl
theorem idx1_yes {x : UInt8} {l : List UInt8} (h : l.contains x = true) : Lib.indexAny [x] l = 0 := by unfold Lib.indexAny; rw [h]; rfl
theorem should8 (n : Int) (w : World) :
    Calls Tryd.prog 26 #[.int .i64 n] w fun e w' => e = .returned (.bool (decide (8 < n))) ∧ w = w' := by
  go_enter Tryd.func26, Tryd.ntmps26
  go_wp2_with fail
  go_ret
  exact ⟨rfl, rfl⟩
theorem ixByteS (s : ByteArray) (c : Int) (w : World) :
    (callFunc 24 #[.string s, .int .u8 c]).run Tryd.prog w = .ok (.value (.int .i64 (Lib.indexByte s.data.toList c.toNat.toUInt8))) w := by
  rw [run_callFunc_extern Tryd.func24 (by kernel_rfl) (by kernel_rfl) (by kernel_rfl) (e := Extern.BytealgIndexByte.indexByte) (by kernel_rfl), Lib.run_indexByteString]
  rfl

set_option maxRecDepth 1000000 in
set_option maxHeartbeats 4000000 in
/-- one byte -/
theorem idx8_one (x : UInt8) (g o c : Nat) (chars : ByteArray) (w : World) (h2 : chars.size = 2) (ha : ascL chars.data.toList) (hc : w.cell? ⟨g, o, none⟩ = some (enc8 x)) :
    Calls Tryd.prog 20 #[.slice (some ⟨g, o, none⟩) 1 c, .string chars] w fun e w' => e = .returned (.int .i64 (Lib.indexAny [x] chars.data.toList)) ∧ Below w.heap.size w w' := by
  have HA := Lib.hid ha
  clear ha
  have hemp := str_ne (s := chars) (by omega)
  clear h2
  have hx := x.toNat_lt
  unfold enc8 at hc
  by_cases hb : x.toNat < 128
  · have hb1 : ¬ ((128 : Int) ≤ (x.toNat : Int)) := by omega
    have hb2 : (x.toNat : Int) % 4294967296 = x.toNat := by omega
    have hix := fun W => ixByteS chars (x.toNat : Int) W
    have hback : ((x.toNat : Int)).toNat.toUInt8 = x := by simp
    simp only [hback] at hix
    have hcon := Lib.contains_iff_indexByte chars.data.toList x
    cases hin : chars.data.toList.contains x
    · have HIN := Lib.hid (idx1_no hin)
      rw [hin] at hcon
      have hneg : ¬ (0 ≤ Lib.indexByte chars.data.toList x) := of_decide_eq_false hcon.symm
      clear hcon hin
      go_enter Tryd.func20, Tryd.ntmps20
      go_wp2_with fail
      go_ret
      exact ⟨ret_int HIN.out.symm, Below.refl _ _⟩
    · have HIN := Lib.hid (idx1_yes hin)
      rw [hin] at hcon
      have hneg : 0 ≤ Lib.indexByte chars.data.toList x := of_decide_eq_true hcon.symm
      clear hcon hin
      go_enter Tryd.func20, Tryd.ntmps20
      go_wp2_with fail
      go_ret
      exact ⟨ret_int HIN.out.symm, Below.refl _ _⟩
  · have hb1 : (128 : Int) ≤ (x.toNat : Int) := by omega
    have HNO := Lib.hid (asc_no HA.out (b := x) (by omega))
    go_enter Tryd.func20, Tryd.ntmps20
    go_wp2_with fail
    go_loopg [5] chars.size (fun g _ wx => ∃ i : Nat, i + g = chars.size ∧ wx = w.iter chars i)
    case atStart => exact ⟨0, by omega, rfl⟩
    case round =>
      obtain ⟨i, hig, rfl⟩ := hrel
      cases gk with
      | zero =>
        obtain rfl : i = chars.size := by omega
        have hnx := run_next_end (P := Tryd.prog) w chars chars.size
        go_wp2_with fail
        go_ret
        exact ⟨ret_int (idx1_no HNO.out).symm, (Below.refl _ _).alloc (Nat.le_refl _) _⟩
      | succ g =>
        have hi : i < chars.size := by omega
        have hx128 : (chars[i]'hi).toNat < 128 := HA.out.at _ (by simp [ByteArray.getElem_eq_getElem_data])
        have hne : (((chars[i]'hi).toNat : Int) == 65533) = false := by rw [beq_eq_false_iff_ne]; omega
        have hnx := fun ty => run_next_ascii (P := Tryd.prog) w chars i ty hi hx128
        go_wp2_with fail
        go_roundg g
        case measure => omega
        case rel => exact ⟨i + 1, by omega, rfl⟩
end Go.Proofs.YtaajfbbogihbnaaDoor
