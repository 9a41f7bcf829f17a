/- The document's Text, Same, Compare of layer 1; awake. -/
import Derived.Test.YtmoioihclnpcbaaDoorFoldG
import Derived.Test.YtmoioihclnpcbaaDoorFoldD
namespace Go.Proofs.YtmoioihclnpcbaaDoor
open Go.RowKit

/-- 'string([]byte{b})' -/
theorem conv_one {P : Program} (W : World) (src dst e : TypeId) (b : UInt8) (hs : P.underlying src = some (.slice e)) (he : P.underlying e = some (.int .u8)) (hd : P.underlying dst = some .string) :
    (convert src dst (.slice (some ⟨W.heap.size, 0, none⟩) 1 1)).run P (W.alloc (.cells #[.int .u8 b.toNat] e)) = .ok (.string (bs [b])) (W.alloc (.cells #[.int .u8 b.toNat] e)) :=
  run_convert_bytes_back (W.alloc (.cells #[.int .u8 b.toNat] e)) src dst e ⟨W.heap.size, 0, none⟩ 1 [b] hs he hd fun j hj => by
    simp at hj
    subst hj
    simp [Addr.add]
theorem bs_append (a b : List UInt8) : bs a ++ bs b = bs (a ++ b) := by
  apply ba_ext
  simp [bs]
theorem foldL_step (s : ByteArray) (k : Nat) (h : k < s.size) : bs (foldL (s.data.toList.take k)) ++ bs [foldB s[k]] = bs (foldL (s.data.toList.take (k + 1))) := by
  rw [bs_append, ba_take s k h, foldL_append]; rfl



theorem bs_inj {a b : List UInt8} (h : bs a = bs b) : a = b := by
  have := congrArg (fun x : ByteArray => x.data.toList) h
  simpa using this
end Go.Proofs.YtmoioihclnpcbaaDoor
