/- The document's Text, Same, Compare of layer 1; awake. -/
import Derived.Test.YtfdaeajafmcjcaaFoldG
import Derived.Test.YtfdaeajafmcjcaaFoldD
namespace Go.Proofs.Ytfdaeajafmcjcaa
open Go.RowKit

/-- 'string([]byte{b})' -/
theorem conv_one {P : Program} (W : World) (src dst e : TypeId) (b : UInt8) (hs : P.underlying src = some (.slice e)) (he : P.underlying e = some (.int .u8)) (hd : P.underlying dst = some .string) :
    (convert src dst (.slice (some ⟨W.heap.size, 0, none⟩) 1 1)).run P (W.alloc (.cells #[.int .u8 b.toNat] e)) = .ok (.string (bs [b])) (W.alloc (.cells #[.int .u8 b.toNat] e)) :=
  run_convert_bytes_back (W.alloc (.cells #[.int .u8 b.toNat] e)) src dst e ⟨W.heap.size, 0, none⟩ 1 [b] hs he hd fun j hj => by
    simp at hj
    subst hj
    simp [Addr.add]
theorem bs_append (a b : List UInt8) : bs a ++ bs b = bs (a ++ b) := by
  apply ba_ext
  simp [bs]
theorem foldL_step (s : ByteArray) (k : Nat) (h : k < s.size) : bs (foldL (s.data.toList.take k)) ++ bs [foldB s[k]] = bs (foldL (s.data.toList.take (k + 1))) := by
  rw [bs_append, ba_take s k h, foldL_append]; rfl

set_option maxHeartbeats 1000000 in
theorem reftext (s : ByteArray) (w : World) (hs : s.size ≤ 1000000) :
    Calls Try.prog 38 #[.string s] w fun e w' => e = .returned (.string (bs (foldL s.data.toList))) ∧ Below w.heap.size w w' := by
  go_enter Try.func38, Try.ntmps38
  go_wp2_with fail
  go_loopw [3, 4] (fun t i wr => ∃ k : Nat, k ≤ s.size ∧ i = .int .i64 k ∧ t = .string (bs (foldL (s.data.toList.take k))) ∧ Hid (Below w.heap.size w wr)) (fun _ i _ => s.size - (intOf i).toNat)
  case atStart => exact ⟨0, Nat.zero_le _, rfl, rfl, Below.refl _ _⟩
  case round =>
    obtain ⟨k, hk, rfl, rfl, HB⟩ := hrel
    by_cases hlt : k < s.size
    · have hconv := conv_one (P := Try.prog) wr 95 9 5 (foldB s[k]) Try.underlying95 Try.underlying5 Try.underlying9
      have hst := foldL_step s k hlt
      have Hst := Lib.hid hst
      clear hst
      have hn : (bs (foldL (s.data.toList.take k))).size ≤ 1000000 := by simp; omega
      go_wp2_with (go_at_call 50; refine (refbyte _ _).mono ?_; rintro e w' ⟨rfl, rfl⟩)
      go_roundw
      case rel => exact ⟨k + 1, by omega, by go_num, by rw [← Hst.out], (HB.out.alloc HB.out.size _)⟩
      case measure => simp [intOf]; omega
    · have hkp : k = s.size := by omega
      have Hkp := Lib.hid hkp
      clear hkp
      go_wp2_with fail
      go_ret
      exact ⟨by rw [Hkp.out, List.take_of_length_le (by simp)]; rfl, HB.out⟩

theorem bs_inj {a b : List UInt8} (h : bs a = bs b) : a = b := by
  have := congrArg (fun x : ByteArray => x.data.toList) h
  simpa using this
end Go.Proofs.Ytfdaeajafmcjcaa
