/- glob.orStar, Complete, Cut; the answers' index, star. -/
import Derived.Test.YtoaimmojnmgelaaDoorGlobC
namespace Go.Proofs.YtoaimmojnmgelaaDoor
open Go.RowKit

/-- a part, or a star -/
def starB (s : ByteArray) : ByteArray := if s.size = 0 then ⟨#[42]⟩ else s
theorem orStar_any (s : ByteArray) (w : World) :
    Calls Tryd.prog 62 #[.string s] w fun e w' => e = .returned (.string (starB s)) ∧ w = w' := by
  by_cases h : s.size = 0
  · have h1 := str_em h
    go_enter Tryd.func62, Tryd.ntmps62
    go_wp2_with fail
    go_ret
    exact ⟨ret_str (by rw [starB, if_pos h]), rfl⟩
  · have h1 := str_ne (s := s) (by omega)
    go_enter Tryd.func62, Tryd.ntmps62
    go_wp2_with fail
    go_ret
    exact ⟨ret_str (by rw [starB, if_neg h]), rfl⟩
theorem star_any (s : ByteArray) (w : World) :
    Calls Tryd.prog 64 #[.string s] w fun e w' => e = .returned (.string (starB s)) ∧ w = w' := by
  by_cases h : s.size = 0
  · have h1 := str_em h
    go_enter Tryd.func64, Tryd.ntmps64
    go_wp2_with fail
    go_ret
    exact ⟨ret_str (by rw [starB, if_pos h]), rfl⟩
  · have h1 := str_ne (s := s) (by omega)
    go_enter Tryd.func64, Tryd.ntmps64
    go_wp2_with fail
    go_ret
    exact ⟨ret_str (by rw [starB, if_neg h]), rfl⟩

/-- where a byte stands first, from a place on -/
def ixFrom (l : List UInt8) (c : UInt8) (k : Nat) : Int := if Lib.indexByte (l.drop k) c = -1 then -1 else Lib.indexByte (l.drop k) c + k
theorem ixFrom_hit {s : ByteArray} {c : UInt8} {k : Nat} (h : k < s.size) (e : s[k] = c) : ixFrom s.data.toList c k = k := by
  unfold ixFrom
  rw [List.drop_eq_getElem_cons (by simpa using h), get_ba s k h]
  simp [Lib.indexByte, e]
theorem ixFrom_next {s : ByteArray} {c : UInt8} {k : Nat} (h : k < s.size) (e : s[k] ≠ c) : ixFrom s.data.toList c k = ixFrom s.data.toList c (k + 1) := by
  unfold ixFrom
  rw [List.drop_eq_getElem_cons (by simpa using h), get_ba s k h]
  have hb : (s[k] == c) = false := by simpa using e
  simp only [Lib.indexByte, hb]
  by_cases h1 : Lib.indexByte (List.drop (k + 1) s.data.toList) c = -1
  · simp [h1]
  · have hge := Lib.indexByte_ge (List.drop (k + 1) s.data.toList) c
    have hb1 : (Lib.indexByte (List.drop (k + 1) s.data.toList) c == -1) = false := by simpa using h1
    simp only [hb1, Bool.false_eq_true, if_false, h1]
    rw [if_neg (by omega)]
    push_cast; omega
theorem ixFrom_end {s : ByteArray} {c : UInt8} {k : Nat} (h : s.size ≤ k) : ixFrom s.data.toList c k = -1 := by
  unfold ixFrom
  rw [List.drop_eq_nil_of_le (by simpa using h)]
  simp [Lib.indexByte]

set_option maxHeartbeats 1000000 in
theorem index_any (s : ByteArray) (c : UInt8) (from0 : Nat) (w : World) (hs : s.size ≤ 1000000) (hf : from0 ≤ 1000000) :
    Calls Tryd.prog 63 #[.string s, .int .u8 ↑c.toNat, .int .i64 ↑from0] w fun e w' => e = .returned (.int .i64 (ixFrom s.data.toList c from0)) ∧ w = w' := by
  go_enter Tryd.func63, Tryd.ntmps63
  go_wp2_with fail
  go_loopw [7] (fun i wr => ∃ k : Nat, k ≤ 1000000 ∧ i = .int .i64 k ∧ ixFrom s.data.toList c from0 = ixFrom s.data.toList c k ∧ wr = w) (fun i _ => s.size - (intOf i).toNat)
  case atStart => exact ⟨from0, hf, rfl, rfl, rfl⟩
  case round =>
    obtain ⟨k, hk, rfl, hq, rfl⟩ := hrel
    have Hq := Lib.hid hq
    clear hq
    by_cases hlt : k < s.size
    · by_cases hb : s[k] = c
      · have hb' : ((s[k].toNat : Int) == ↑c.toNat) = true := by rw [u8_beq]; simpa using hb
        go_wp2_with fail
        go_ret
        exact ⟨ret_int (by rw [Hq.out]; exact (ixFrom_hit hlt hb).symm), rfl⟩
      · have hb' : ((s[k].toNat : Int) == ↑c.toNat) = false := by rw [u8_beq]; simpa using hb
        go_wp2_with fail
        exact ⟨⟨k + 1, by omega, by push_cast; rfl, Hq.out.trans (ixFrom_next hlt hb), by simp⟩, by simp only [intOf]; omega⟩
    · have hle : s.size ≤ k := by omega
      go_wp2_with fail
      go_ret
      exact ⟨ret_int (by rw [Hq.out]; exact (ixFrom_end hle).symm), rfl⟩
end Go.Proofs.YtoaimmojnmgelaaDoor
