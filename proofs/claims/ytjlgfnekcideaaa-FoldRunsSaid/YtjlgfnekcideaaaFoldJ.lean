/- What layer 1's laws ask first: awake. FoldBytes: every byte. -/
import Derived.Test.YtjlgfnekcideaaaFoldI
import Derived.OpenShut
namespace Go.Proofs.Ytjlgfnekcideaaa
open Go.RowKit

theorem below_dn {B : Nat} {a w : World} (h : Below B a w) (n : Nat) : Below B a (w.drewN n) := ⟨h.os, h.tape, h.output, h.size, h.block⟩

theorem awake01 (w : World) : Calls Try.prog 9 #[] w fun e w' => e = .returned (.bool true) ∧ Below w.heap.size w w' := by
  have t1 : bs (foldL [65, 91, 98, 93, 126]) = ⟨#[97, 123, 98, 125, 94]⟩ := by decide +kernel
  have T1 := Lib.hid t1
  clear t1
  go_enter Try.func9, Try.ntmps9
  go_wp2_with fail
  refine (text_any _ _ (by decide)).mono ?_
  rintro e w1 ⟨rfl, hb1⟩
  rw [show bs (foldL ({ data := #[65, 91, 98, 93, 126] } : ByteArray).data.toList) = ⟨#[97, 123, 98, 125, 94]⟩ from T1.out]
  go_wp2_with fail
  refine (same_any _ _ _ (by decide) (by decide)).mono ?_
  rintro e w2 ⟨rfl, n2, rfl⟩
  rw [show sameF ({ data := #[78, 105, 99, 107, 91] } : ByteArray).data.toList ({ data := #[110, 73, 67, 75, 123] } : ByteArray).data.toList = true from by decide +kernel]
  go_wp2_with fail
  refine (same_any _ _ _ (by decide) (by decide)).mono ?_
  rintro e w3 ⟨rfl, n3, rfl⟩
  rw [show sameF ({ data := #[97] } : ByteArray).data.toList ({ data := #[98] } : ByteArray).data.toList = false from by decide +kernel]
  go_wp2_with fail
  go_ret
  exact ⟨rfl, below_dn hb1 _⟩

theorem foldB_idem (b : UInt8) : foldB (foldB b) = foldB b := by
  have h : ∀ n : Fin 256, foldB (foldB (UInt8.ofNat n)) = foldB (UInt8.ofNat n) := by decide +kernel
  have := h ⟨b.toNat, b.toNat_lt⟩
  simpa using this

theorem int_u8 {a : Int} (h0 : 0 ≤ a) (h1 : a ≤ 255) : ∃ b : UInt8, a = (b.toNat : Int) :=
  ⟨UInt8.ofNat a.toNat, by rw [UInt8.toNat_ofNat']; omega⟩

theorem bytes_walk (b : UInt8) (w : World) : Calls Try.prog 7 #[.int .u8 ↑b.toNat] w fun e w' => e = .returned (.bool true) ∧ Below w.heap.size w w' := by
  have hi := foldB_idem b
  have Hi := Lib.hid hi
  clear hi
  go_enter Try.func7, Try.ntmps7
  go_wp2_with fail
  refine (awake01 _).mono ?_
  rintro e w1 ⟨rfl, hb1⟩
  go_wp2_with fail
  refine (byte_u8 _ _).mono ?_
  rintro e w2 ⟨rfl, rfl⟩
  go_wp2_with fail
  refine (refbyte _ _).mono ?_
  rintro e w2 ⟨rfl, rfl⟩
  go_wp2_with fail
  refine (byte_u8 _ _).mono ?_
  rintro e w2 ⟨rfl, rfl⟩
  rw [Hi.out]
  go_wp2_with fail
  go_ret
  exact ⟨rfl, hb1⟩
theorem bytes_law (a : Int) (h : (Lit.int .u8 a).wf = true) (w : World) : Calls Try.prog 7 #[.int .u8 a] w fun e w' => e = .returned (.bool true) ∧ Below w.heap.size w w' := by
  obtain ⟨b, rfl⟩ := int_u8 (bounds_u8 h).1 (bounds_u8 h).2
  exact bytes_walk b w
end Go.Proofs.Ytjlgfnekcideaaa
