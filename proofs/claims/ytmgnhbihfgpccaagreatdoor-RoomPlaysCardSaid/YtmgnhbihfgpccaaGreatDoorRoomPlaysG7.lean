/- Texts of this proof, one behind the other. -/
import Derived.Test.YtmgnhbihfgpccaaGreatDoorRoomPlaysG6
import Derived.Lib.IndexAny
import Derived.Test.YtmgnhbihfgpccaaGreatDoorRoomPlaysG5
import Derived.Test.YtmgnhbihfgpccaaGreatDoorRoomPlaysG2
import Derived.Laws.Runes
import Derived.Laws.RangeAny
import Derived.Laws.Strings3
import Derived.Deep.LoopGhost
import Derived.IntWalk
import Derived.Lib.IndexBytes
import Derived.Lib.OthersKept
import Derived.Test.YtmgnhbihfgpccaaGreatDoorRoomPlaysG3
import Derived.Shelf.Strings.IndexAnyAll
set_option linter.unusedVariables false
set_option linter.unusedSimpArgs false
section
/- strings.Index, Contains, Cut with one byte. -/
namespace Go.Proofs.YtmgnhbihfgpccaaGreatDoor
open Go.RowKit

set_option maxRecDepth 1000000 in
set_option maxHeartbeats 2000000 in
theorem index1_lite (s : ByteArray) (c : UInt8) (w : World) (hs : s.size ≤ 1000000) :
    Calls Tryz.prog 140 #[.string s, .string ⟨#[c]⟩] w fun e w' => e = .returned (.int .i64 (Lib.indexByte s.data.toList c)) ∧ w = w' := by
  go_enter Tryz.func140, Tryz.ntmps140
  go_wp2_with (go_at_call 145; refine (idxByte0 _ _ _).mono ?_; rintro e w' ⟨rfl, rfl⟩)
  · go_ret
    rename_i h
    rw [ByteArray.toList_eq, beq_iff_eq] at h
    exact ⟨ret_int (by rw [← h]; simp [Lib.indexByte]), rfl⟩
  · go_ret
    exact ⟨ret_int rfl, rfl⟩
set_option maxRecDepth 1000000 in
theorem index1 (s : ByteArray) (c : UInt8) (w : World) (hs : s.size ≤ 1000000) :
    Calls Tryz.prog 110 #[.string s, .string ⟨#[c]⟩] w fun e w' => e = .returned (.int .i64 (Lib.indexByte s.data.toList c)) ∧ w = w' := by
  go_enter Tryz.func110, Tryz.ntmps110
  go_wp2_with (go_at_call 140; refine (index1_lite _ _ _ hs).mono ?_; rintro e w' ⟨rfl, rfl⟩)
  go_ret
  exact ⟨rfl, rfl⟩
theorem idx_bool (l : List UInt8) (c : UInt8) : decide (Lib.indexByte l c ≥ 0) = l.contains c := by
  have h1 := Lib.contains_iff_indexByte l c
  rw [h1]
set_option maxRecDepth 1000000 in
theorem contains1 (s : ByteArray) (c : UInt8) (w : World) (hs : s.size ≤ 1000000) :
    Calls Tryz.prog 78 #[.string s, .string ⟨#[c]⟩] w fun e w' => e = .returned (.bool (s.data.toList.contains c)) ∧ w = w' := by
  go_enter Tryz.func78, Tryz.ntmps78
  go_wp2_with (go_at_call 110; refine (index1 _ _ _ hs).mono ?_; rintro e w' ⟨rfl, rfl⟩)
  go_ret
  exact ⟨ret_bool (idx_bool _ _), rfl⟩
theorem idx_lt {l : List UInt8} {c : UInt8} {o : Nat} (h : Lib.indexByte l c = o) : o < l.length := by
  have := (Lib.indexByte_some h).1
  exact (List.getElem?_eq_some_iff.1 this).1
set_option maxRecDepth 1000000 in
set_option maxHeartbeats 1000000 in
theorem cut_yes (s : ByteArray) (c : UInt8) (o : Nat) (w : World) (hs : s.size ≤ 1000000) (h : Lib.indexByte s.data.toList c = o) :
    Calls Tryz.prog 108 #[.string s, .string ⟨#[c]⟩] w fun e w' => e = .returned (.tuple #[.string (s.extract 0 o), .string (s.extract (o + 1) s.size), .bool true]) ∧ (∃ n, w' = w.drewN n) := by
  have ho := idx_lt h
  rw [len_ba] at ho
  have hlite : Calls Tryz.prog 139 #[.string s, .string ⟨#[c]⟩] w fun e w' => e = .returned (.tuple #[.string (s.extract 0 o), .string (s.extract (o + 1) s.size), .bool true]) ∧ (∃ n, w' = w.drewN n) := by
    go_enter Tryz.func139, Tryz.ntmps139
    go_wp2_with (go_at_call 140; refine (index1_lite _ _ _ hs).mono ?_; rintro e w' ⟨rfl, rfl⟩; rw [h])
    go_quiet (fail)
    all_goals go_wp2_with fail
    all_goals go_ret3
    all_goals exact ⟨rfl, _, rfl⟩
  go_enter Tryz.func108, Tryz.ntmps108
  go_wp2_with (go_at_call 139; refine hlite.mono ?_; rintro e w' ⟨rfl, hw⟩)
  go_ret3
  exact ⟨rfl, hw⟩
set_option maxRecDepth 1000000 in
set_option maxHeartbeats 1000000 in
theorem cut_no (s : ByteArray) (c : UInt8) (w : World) (hs : s.size ≤ 1000000) (h : Lib.indexByte s.data.toList c = -1) :
    Calls Tryz.prog 108 #[.string s, .string ⟨#[c]⟩] w fun e w' => e = .returned (.tuple #[.string s, .string ⟨#[]⟩, .bool false]) ∧ w = w' := by
  have hlite : Calls Tryz.prog 139 #[.string s, .string ⟨#[c]⟩] w fun e w' => e = .returned (.tuple #[.string s, .string ⟨#[]⟩, .bool false]) ∧ w = w' := by
    go_enter Tryz.func139, Tryz.ntmps139
    go_wp2_with (go_at_call 140; refine (index1_lite _ _ _ hs).mono ?_; rintro e w' ⟨rfl, rfl⟩; rw [h])
    go_ret3
    exact ⟨rfl, rfl⟩
  go_enter Tryz.func108, Tryz.ntmps108
  go_wp2_with (go_at_call 139; refine hlite.mono ?_; rintro e w' ⟨rfl, rfl⟩)
  go_ret3
  exact ⟨rfl, rfl⟩
end Go.Proofs.YtmgnhbihfgpccaaGreatDoor
end
section
/- glob.orStar, Complete, Cut; the answers' index, star. -/
namespace Go.Proofs.YtmgnhbihfgpccaaGreatDoor
open Go.RowKit

/-- a part, or a star -/
def starB (s : ByteArray) : ByteArray := if s.size = 0 then ⟨#[42]⟩ else s
theorem orStar_any (s : ByteArray) (w : World) :
    Calls Tryz.prog 109 #[.string s] w fun e w' => e = .returned (.string (starB s)) ∧ w = w' := by
  by_cases h : s.size = 0
  · have h1 := str_em h
    go_enter Tryz.func109, Tryz.ntmps109
    go_wp2_with fail
    go_ret
    exact ⟨ret_str (by rw [starB, if_pos h]), rfl⟩
  · have h1 := str_ne (s := s) (by omega)
    go_enter Tryz.func109, Tryz.ntmps109
    go_wp2_with fail
    go_ret
    exact ⟨ret_str (by rw [starB, if_neg h]), rfl⟩
theorem star_any (s : ByteArray) (w : World) :
    Calls Tryz.prog 123 #[.string s] w fun e w' => e = .returned (.string (starB s)) ∧ w = w' := by
  by_cases h : s.size = 0
  · have h1 := str_em h
    go_enter Tryz.func123, Tryz.ntmps123
    go_wp2_with fail
    go_ret
    exact ⟨ret_str (by rw [starB, if_pos h]), rfl⟩
  · have h1 := str_ne (s := s) (by omega)
    go_enter Tryz.func123, Tryz.ntmps123
    go_wp2_with fail
    go_ret
    exact ⟨ret_str (by rw [starB, if_neg h]), rfl⟩

/-- where a byte stands first, from a place on -/
def ixFrom (l : List UInt8) (c : UInt8) (k : Nat) : Int := if Lib.indexByte (l.drop k) c = -1 then -1 else Lib.indexByte (l.drop k) c + k
theorem ixFrom_hit {s : ByteArray} {c : UInt8} {k : Nat} (h : k < s.size) (e : s[k] = c) : ixFrom s.data.toList c k = k := by
  unfold ixFrom
  rw [List.drop_eq_getElem_cons (by simpa using h), get_ba s k h]
  simp [Lib.indexByte, e]
theorem ixFrom_next {s : ByteArray} {c : UInt8} {k : Nat} (h : k < s.size) (e : s[k] ≠ c) : ixFrom s.data.toList c k = ixFrom s.data.toList c (k + 1) := by
  unfold ixFrom
  rw [List.drop_eq_getElem_cons (by simpa using h), get_ba s k h]
  have hb : (s[k] == c) = false := by simpa using e
  simp only [Lib.indexByte, hb]
  by_cases h1 : Lib.indexByte (List.drop (k + 1) s.data.toList) c = -1
  · simp [h1]
  · have hge := Lib.indexByte_ge (List.drop (k + 1) s.data.toList) c
    have hb1 : (Lib.indexByte (List.drop (k + 1) s.data.toList) c == -1) = false := by simpa using h1
    simp only [hb1, Bool.false_eq_true, if_false, h1]
    rw [if_neg (by omega)]
    push_cast; omega
theorem ixFrom_end {s : ByteArray} {c : UInt8} {k : Nat} (h : s.size ≤ k) : ixFrom s.data.toList c k = -1 := by
  unfold ixFrom
  rw [List.drop_eq_nil_of_le (by simpa using h)]
  simp [Lib.indexByte]

set_option maxHeartbeats 1000000 in
theorem index_any (s : ByteArray) (c : UInt8) (from0 : Nat) (w : World) (hs : s.size ≤ 1000000) (hf : from0 ≤ 1000000) :
    Calls Tryz.prog 122 #[.string s, .int .u8 ↑c.toNat, .int .i64 ↑from0] w fun e w' => e = .returned (.int .i64 (ixFrom s.data.toList c from0)) ∧ w = w' := by
  go_enter Tryz.func122, Tryz.ntmps122
  go_wp2_with fail
  go_loopw [7] (fun i wr => ∃ k : Nat, k ≤ 1000000 ∧ i = .int .i64 k ∧ ixFrom s.data.toList c from0 = ixFrom s.data.toList c k ∧ wr = w) (fun i _ => s.size - (Go.RowKit.intOf i).toNat)
  case atStart => exact ⟨from0, hf, rfl, rfl, rfl⟩
  case round =>
    obtain ⟨k, hk, rfl, hq, rfl⟩ := hrel
    have Hq := Lib.hid hq
    clear hq
    by_cases hlt : k < s.size
    · by_cases hb : s[k] = c
      · have hb' : ((s[k].toNat : Int) == ↑c.toNat) = true := by rw [u8_beq]; simpa using hb
        go_wp2_with fail
        go_ret
        exact ⟨ret_int (by rw [Hq.out]; exact (ixFrom_hit hlt hb).symm), rfl⟩
      · have hb' : ((s[k].toNat : Int) == ↑c.toNat) = false := by rw [u8_beq]; simpa using hb
        go_wp2_with fail
        exact ⟨⟨k + 1, by omega, by push_cast; rfl, Hq.out.trans (ixFrom_next hlt hb), by simp⟩, by simp only [Go.RowKit.intOf]; omega⟩
    · have hle : s.size ≤ k := by omega
      go_wp2_with fail
      go_ret
      exact ⟨ret_int (by rw [Hq.out]; exact (ixFrom_end hle).symm), rfl⟩
end Go.Proofs.YtmgnhbihfgpccaaGreatDoor
end
section
/- glob.Complete. -/
namespace Go.Proofs.YtmgnhbihfgpccaaGreatDoor
open Go.RowKit

def starL (l : List UInt8) : List UInt8 := if l.length = 0 then [42] else l
theorem starB_data (s : ByteArray) : (starB s).data.toList = starL s.data.toList := by
  unfold starB starL
  rw [len_ba]
  by_cases h : s.size = 0
  · rw [if_pos h, if_pos h]
  · rw [if_neg h, if_neg h]
def cutL (l : List UInt8) (c : UInt8) : List UInt8 × List UInt8 := if Lib.indexByte l c = -1 then (l, []) else (l.take (Lib.indexByte l c).toNat, l.drop ((Lib.indexByte l c).toNat + 1))
/-- three parts, as one mask -/
def joinL (n u h : List UInt8) : List UInt8 := starL n ++ [33] ++ starL u ++ [64] ++ starL h

theorem orStar_r (s : ByteArray) (w : World) (hs : s.size ≤ 1000000) :
    Calls Tryz.prog 109 #[.string s] w fun e w' => (∃ r : ByteArray, e = .returned (.string r) ∧ r.data.toList = starL s.data.toList ∧ r.size ≤ 1000001) ∧ w = w' := by
  refine (orStar_any s w).mono ?_
  rintro e w' ⟨rfl, rfl⟩
  refine ⟨⟨_, rfl, starB_data s, ?_⟩, rfl⟩
  unfold starB
  split
  · decide
  · omega
theorem drewN_two {w w1 w2 : World} (h : ∃ n, w1 = w.drewN n) (h2 : ∃ n, w2 = w1.drewN n) : ∃ n, w2 = w.drewN n := by
  obtain ⟨n, rfl⟩ := h; obtain ⟨m, rfl⟩ := h2; exact ⟨n + m, by rw [World.drewN_drewN]⟩
theorem drewN_none (w : World) : ∃ n, w = w.drewN n := ⟨0, rfl⟩
theorem join_data {x y z : ByteArray} {n u h : List UInt8} (hx : x.data.toList = starL n) (hy : y.data.toList = starL u) (hz : z.data.toList = starL h) : (x ++ ⟨#[33]⟩ ++ y ++ ⟨#[64]⟩ ++ z).data.toList = joinL n u h := by
  unfold joinL
  simp [hx, hy, hz]
theorem size_ex {s : ByteArray} (a b : Nat) (hs : s.size ≤ 1000000) : (s.extract a b).size ≤ 1000000 := by simp [ByteArray.size_extract]; omega

set_option maxRecDepth 1000000 in
set_option maxHeartbeats 4000000 in
theorem comp_a (s : ByteArray) (b o : Nat) (w : World) (hs : s.size ≤ 1000000) (hb : Lib.indexByte s.data.toList 33 = b) (hn : (s.extract 0 b).data.toList.contains 64 = false) (ho : Lib.indexByte (s.extract (b + 1) s.size).data.toList 64 = o) :
    Calls Tryz.prog 77 #[.string s] w fun e w' => (∃ r : ByteArray, e = .returned (.string r) ∧ r.data.toList = joinL (s.extract 0 b).data.toList ((s.extract (b + 1) s.size).extract 0 o).data.toList ((s.extract (b + 1) s.size).extract (o + 1) (s.size - (b + 1))).data.toList) ∧ ∃ n, w' = w.drewN n := by
  have hN := size_ex 0 b hs
  have hR := size_ex (b + 1) s.size hs
  have hU := size_ex 0 o hR
  have hH := size_ex (o + 1) (s.size - (b + 1)) hR
  go_enter Tryz.func77, Tryz.ntmps77
  go_wp2_with fail
  refine (cut_yes s 33 b _ hs hb).mono ?_
  rintro e w1 ⟨rfl, hw1⟩
  go_wp2_with fail
  refine (contains1 (s.extract 0 b) 64 _ (size_ex _ _ hs)).mono ?_
  rintro e w2 ⟨rfl, rfl⟩
  rw [hn]
  go_wp2_with fail
  refine (cut_yes (s.extract (b + 1) s.size) 64 o _ hR ho).mono ?_
  rintro e w3 ⟨rfl, hw3⟩
  go_wp2_with (go_at_call 109; refine (orStar_r _ _ (by first | exact hs | exact hN | exact hU | exact hH | exact hR | decide)).mono ?_; rintro e w' ⟨⟨r, rfl, hr1, hr2⟩, rfl⟩)
  all_goals go_ret
  all_goals exact ⟨⟨_, rfl, join_data (by assumption) (by assumption) (by assumption)⟩, drewN_two hw1 hw3⟩

set_option maxRecDepth 1000000 in
set_option maxHeartbeats 4000000 in
theorem comp_a0 (s : ByteArray) (b : Nat) (w : World) (hs : s.size ≤ 1000000) (hb : Lib.indexByte s.data.toList 33 = b) (hn : (s.extract 0 b).data.toList.contains 64 = false) (ho : Lib.indexByte (s.extract (b + 1) s.size).data.toList 64 = -1) :
    Calls Tryz.prog 77 #[.string s] w fun e w' => (∃ r : ByteArray, e = .returned (.string r) ∧ r.data.toList = joinL (s.extract 0 b).data.toList (s.extract (b + 1) s.size).data.toList (⟨#[]⟩ : ByteArray).data.toList) ∧ ∃ n, w' = w.drewN n := by
  have hN := size_ex 0 b hs
  have hR := size_ex (b + 1) s.size hs
  go_enter Tryz.func77, Tryz.ntmps77
  go_wp2_with fail
  refine (cut_yes s 33 b _ hs hb).mono ?_
  rintro e w1 ⟨rfl, hw1⟩
  go_wp2_with fail
  refine (contains1 (s.extract 0 b) 64 _ (size_ex _ _ hs)).mono ?_
  rintro e w2 ⟨rfl, rfl⟩
  rw [hn]
  go_wp2_with fail
  refine (cut_no (s.extract (b + 1) s.size) 64 _ hR ho).mono ?_
  rintro e w3 ⟨rfl, rfl⟩
  go_wp2_with (go_at_call 109; refine (orStar_r _ _ (by first | exact hs | exact hN | exact hU | exact hH | exact hR | decide)).mono ?_; rintro e w' ⟨⟨r, rfl, hr1, hr2⟩, rfl⟩)
  all_goals go_ret
  all_goals exact ⟨⟨_, rfl, join_data (by assumption) (by assumption) (by assumption)⟩, hw1⟩

set_option maxRecDepth 1000000 in
set_option maxHeartbeats 4000000 in
theorem comp_b (s : ByteArray) (b o : Nat) (w : World) (hs : s.size ≤ 1000000) (hb : Lib.indexByte s.data.toList 33 = b) (hn : (s.extract 0 b).data.toList.contains 64 = true) (hm : s.data.toList.contains 64 = true) (ho : Lib.indexByte s.data.toList 64 = o) :
    Calls Tryz.prog 77 #[.string s] w fun e w' => (∃ r : ByteArray, e = .returned (.string r) ∧ r.data.toList = joinL (⟨#[]⟩ : ByteArray).data.toList (s.extract 0 o).data.toList (s.extract (o + 1) s.size).data.toList) ∧ ∃ n, w' = w.drewN n := by
  have hU := size_ex 0 o hs
  have hH := size_ex (o + 1) s.size hs
  go_enter Tryz.func77, Tryz.ntmps77
  go_wp2_with fail
  refine (cut_yes s 33 b _ hs hb).mono ?_
  rintro e w1 ⟨rfl, hw1⟩
  go_wp2_with fail
  refine (contains1 (s.extract 0 b) 64 _ (size_ex _ _ hs)).mono ?_
  rintro e w2 ⟨rfl, rfl⟩
  rw [hn]
  go_wp2_with fail
  refine (contains1 s 64 _ hs).mono ?_
  rintro e w2 ⟨rfl, rfl⟩
  rw [hm]
  go_wp2_with fail
  refine (cut_yes s 64 o _ hs ho).mono ?_
  rintro e w3 ⟨rfl, hw3⟩
  go_wp2_with (go_at_call 109; refine (orStar_r _ _ (by first | exact hs | exact hN | exact hU | exact hH | exact hR | decide)).mono ?_; rintro e w' ⟨⟨r, rfl, hr1, hr2⟩, rfl⟩)
  all_goals go_ret
  all_goals exact ⟨⟨_, rfl, join_data (by assumption) (by assumption) (by assumption)⟩, drewN_two hw1 hw3⟩

set_option maxRecDepth 1000000 in
set_option maxHeartbeats 4000000 in
theorem comp_c (s : ByteArray) (o : Nat) (w : World) (hs : s.size ≤ 1000000) (hb : Lib.indexByte s.data.toList 33 = -1) (hm : s.data.toList.contains 64 = true) (ho : Lib.indexByte s.data.toList 64 = o) :
    Calls Tryz.prog 77 #[.string s] w fun e w' => (∃ r : ByteArray, e = .returned (.string r) ∧ r.data.toList = joinL (⟨#[]⟩ : ByteArray).data.toList (s.extract 0 o).data.toList (s.extract (o + 1) s.size).data.toList) ∧ ∃ n, w' = w.drewN n := by
  have hU := size_ex 0 o hs
  have hH := size_ex (o + 1) s.size hs
  go_enter Tryz.func77, Tryz.ntmps77
  go_wp2_with fail
  refine (cut_no s 33 _ hs hb).mono ?_
  rintro e w1 ⟨rfl, rfl⟩
  go_wp2_with fail
  refine (contains1 s 64 _ hs).mono ?_
  rintro e w2 ⟨rfl, rfl⟩
  rw [hm]
  go_wp2_with fail
  refine (cut_yes s 64 o _ hs ho).mono ?_
  rintro e w3 ⟨rfl, hw3⟩
  go_wp2_with (go_at_call 109; refine (orStar_r _ _ (by first | exact hs | exact hN | exact hU | exact hH | exact hR | decide)).mono ?_; rintro e w' ⟨⟨r, rfl, hr1, hr2⟩, rfl⟩)
  all_goals go_ret
  all_goals exact ⟨⟨_, rfl, join_data (by assumption) (by assumption) (by assumption)⟩, hw3⟩

set_option maxRecDepth 1000000 in
set_option maxHeartbeats 4000000 in
theorem comp_d (s : ByteArray) (w : World) (hs : s.size ≤ 1000000) (hb : Lib.indexByte s.data.toList 33 = -1) (hm : s.data.toList.contains 64 = false) :
    Calls Tryz.prog 77 #[.string s] w fun e w' => (∃ r : ByteArray, e = .returned (.string r) ∧ r.data.toList = joinL s.data.toList (⟨#[]⟩ : ByteArray).data.toList (⟨#[]⟩ : ByteArray).data.toList) ∧ ∃ n, w' = w.drewN n := by
  go_enter Tryz.func77, Tryz.ntmps77
  go_wp2_with fail
  refine (cut_no s 33 _ hs hb).mono ?_
  rintro e w1 ⟨rfl, rfl⟩
  go_wp2_with fail
  refine (contains1 s 64 _ hs).mono ?_
  rintro e w2 ⟨rfl, rfl⟩
  rw [hm]
  go_wp2_with fail
  refine (cut_no ⟨#[]⟩ 64 _ (by decide) (by rfl)).mono ?_
  rintro e w3 ⟨rfl, rfl⟩
  go_wp2_with (go_at_call 109; refine (orStar_r _ _ (by first | exact hs | exact hN | exact hU | exact hH | exact hR | decide)).mono ?_; rintro e w' ⟨⟨r, rfl, hr1, hr2⟩, rfl⟩)
  all_goals go_ret
  all_goals exact ⟨⟨_, rfl, join_data (by assumption) (by assumption) (by assumption)⟩, drewN_none _⟩

end Go.Proofs.YtmgnhbihfgpccaaGreatDoor
end
section
/- The document's Complete of layer 4. -/
namespace Go.Proofs.YtmgnhbihfgpccaaGreatDoor
open Go.RowKit

theorem star_r (s : ByteArray) (w : World) (hs : s.size ≤ 1000000) :
    Calls Tryz.prog 123 #[.string s] w fun e w' => (∃ r : ByteArray, e = .returned (.string r) ∧ r.data.toList = starL s.data.toList ∧ r.size ≤ 1000001) ∧ w = w' := by
  refine (star_any s w).mono ?_
  rintro e w' ⟨rfl, rfl⟩
  refine ⟨⟨_, rfl, starB_data s, ?_⟩, rfl⟩
  unfold starB
  split
  · decide
  · omega
theorem index_0 (s : ByteArray) (c : UInt8) (w : World) (hs : s.size ≤ 1000000) :
    Calls Tryz.prog 122 #[.string s, .int .u8 ↑c.toNat, .int .i64 0] w fun e w' => e = .returned (.int .i64 (Lib.indexByte s.data.toList c)) ∧ w = w' := by
  refine (index_any s c 0 w hs (by decide)).mono ?_
  rintro e w' ⟨rfl, rfl⟩
  refine ⟨ret_int ?_, rfl⟩
  unfold ixFrom
  rw [List.drop_zero]
  split
  · rename_i h; exact h.symm
  · simp
theorem index_33 (s : ByteArray) (w : World) (hs : s.size ≤ 1000000) {v : Int} (h : Lib.indexByte s.data.toList 33 = v) :
    Calls Tryz.prog 122 #[.string s, .int .u8 33, .int .i64 0] w fun e w' => e = .returned (.int .i64 v) ∧ w = w' := by
  subst h; exact index_0 s 33 w hs
theorem index_64 (s : ByteArray) (w : World) (hs : s.size ≤ 1000000) {v : Int} (h : Lib.indexByte s.data.toList 64 = v) :
    Calls Tryz.prog 122 #[.string s, .int .u8 64, .int .i64 0] w fun e w' => e = .returned (.int .i64 v) ∧ w = w' := by
  subst h; exact index_0 s 64 w hs
theorem index_from (s : ByteArray) (k : Nat) (w : World) (hs : s.size ≤ 1000000) (hk : k ≤ 1000000) {v : Int} (h : ixFrom s.data.toList 64 k = v) :
    Calls Tryz.prog 122 #[.string s, .int .u8 64, .int .i64 ↑k] w fun e w' => e = .returned (.int .i64 v) ∧ w = w' := by
  subst h; exact index_any s 64 k w hs hk

set_option maxRecDepth 1000000 in
set_option maxHeartbeats 4000000 in
/-- no ! and no @ -/
theorem rcomp_d (s : ByteArray) (w : World) (hs : s.size ≤ 1000000) (hb : Lib.indexByte s.data.toList 33 = -1) (ha : Lib.indexByte s.data.toList 64 = -1) :
    Calls Tryz.prog 96 #[.string s] w fun e w' => (∃ r : ByteArray, e = .returned (.string r) ∧ r.data.toList = joinL s.data.toList (⟨#[]⟩ : ByteArray).data.toList (⟨#[]⟩ : ByteArray).data.toList) ∧ ∃ n, w' = w.drewN n := by
  go_enter Tryz.func96, Tryz.ntmps96
  go_wp2_with fail
  refine (index_33 s _ hs hb).mono ?_
  rintro e w1 ⟨rfl, rfl⟩
  go_wp2_with fail
  refine (index_64 s _ hs ha).mono ?_
  rintro e w1 ⟨rfl, rfl⟩
  go_wp2_with (go_at_call 123; refine (star_r _ _ (by first | exact hs | decide)).mono ?_; rintro e w' ⟨⟨r, rfl, hr1, hr2⟩, rfl⟩)
  all_goals go_ret
  all_goals exact ⟨⟨_, rfl, join_data (by assumption) (by assumption) (by assumption)⟩, drewN_none _⟩

set_option maxRecDepth 1000000 in
set_option maxHeartbeats 4000000 in
/-- no !, an @ at a -/
theorem rcomp_c (s : ByteArray) (a : Nat) (w : World) (hs : s.size ≤ 1000000) (hb : Lib.indexByte s.data.toList 33 = -1) (ha : Lib.indexByte s.data.toList 64 = a) :
    Calls Tryz.prog 96 #[.string s] w fun e w' => (∃ r : ByteArray, e = .returned (.string r) ∧ r.data.toList = joinL (⟨#[]⟩ : ByteArray).data.toList (s.extract 0 a).data.toList (s.extract (a + 1) s.size).data.toList) ∧ ∃ n, w' = w.drewN n := by
  have hl : a < s.size := by have := idx_lt ha; rwa [len_ba] at this
  have hU := size_ex 0 a hs
  have hH := size_ex (a + 1) s.size hs
  go_enter Tryz.func96, Tryz.ntmps96
  go_wp2_with fail
  refine (index_33 s _ hs hb).mono ?_
  rintro e w1 ⟨rfl, rfl⟩
  go_wp2_with fail
  refine (index_64 s _ hs ha).mono ?_
  rintro e w1 ⟨rfl, rfl⟩
  go_wp2_with fail
  refine (index_64 s _ hs ha).mono ?_
  rintro e w1 ⟨rfl, rfl⟩
  go_wp2_with (go_at_call 123; refine (star_r _ _ (by first | exact hs | exact hN | exact hU | exact hH | decide)).mono ?_; rintro e w' ⟨⟨r, rfl, hr1, hr2⟩, rfl⟩)
  all_goals go_ret
  all_goals exact ⟨⟨_, rfl, join_data (by assumption) (by assumption) (by assumption)⟩, drewN_none _⟩

set_option maxRecDepth 1000000 in
set_option maxHeartbeats 4000000 in
/-- a !, no @ -/
theorem rcomp_a0 (s : ByteArray) (b : Nat) (w : World) (hs : s.size ≤ 1000000) (hb : Lib.indexByte s.data.toList 33 = b) (ha : Lib.indexByte s.data.toList 64 = -1) (hf : ixFrom s.data.toList 64 (b + 1) = -1) :
    Calls Tryz.prog 96 #[.string s] w fun e w' => (∃ r : ByteArray, e = .returned (.string r) ∧ r.data.toList = joinL (s.extract 0 b).data.toList (s.extract (b + 1) s.size).data.toList (⟨#[]⟩ : ByteArray).data.toList) ∧ ∃ n, w' = w.drewN n := by
  have hl : b < s.size := by have := idx_lt hb; rwa [len_ba] at this
  have hN := size_ex 0 b hs
  have hU := size_ex (b + 1) s.size hs
  go_enter Tryz.func96, Tryz.ntmps96
  go_wp2_with fail
  refine (index_33 s _ hs hb).mono ?_
  rintro e w1 ⟨rfl, rfl⟩
  go_wp2_with fail
  refine (index_64 s _ hs ha).mono ?_
  rintro e w1 ⟨rfl, rfl⟩
  go_wp2_with fail
  refine (index_from s (b + 1) _ hs (by omega) hf).mono ?_
  rintro e w1 ⟨rfl, rfl⟩
  go_wp2_with (go_at_call 123; refine (star_r _ _ (by first | exact hs | exact hN | exact hU | exact hH | decide)).mono ?_; rintro e w' ⟨⟨r, rfl, hr1, hr2⟩, rfl⟩)
  all_goals go_ret
  all_goals exact ⟨⟨_, rfl, join_data (by assumption) (by assumption) (by assumption)⟩, drewN_none _⟩

set_option maxRecDepth 1000000 in
set_option maxHeartbeats 4000000 in
/-- a !, an @ behind it -/
theorem rcomp_a (s : ByteArray) (b a : Nat) (w : World) (hs : s.size ≤ 1000000) (hb : Lib.indexByte s.data.toList 33 = b) (ha : Lib.indexByte s.data.toList 64 = a) (hba : b < a) (hal : a < s.size) (hf : ixFrom s.data.toList 64 (b + 1) = a) :
    Calls Tryz.prog 96 #[.string s] w fun e w' => (∃ r : ByteArray, e = .returned (.string r) ∧ r.data.toList = joinL (s.extract 0 b).data.toList (s.extract (b + 1) a).data.toList (s.extract (a + 1) s.size).data.toList) ∧ ∃ n, w' = w.drewN n := by
  have hl : b < s.size := by have := idx_lt hb; rwa [len_ba] at this
  have hN := size_ex 0 b hs
  have hU := size_ex (b + 1) a hs
  have hH := size_ex (a + 1) s.size hs
  go_enter Tryz.func96, Tryz.ntmps96
  go_wp2_with fail
  refine (index_33 s _ hs hb).mono ?_
  rintro e w1 ⟨rfl, rfl⟩
  go_wp2_with fail
  refine (index_64 s _ hs ha).mono ?_
  rintro e w1 ⟨rfl, rfl⟩
  go_wp2_with fail
  refine (index_from s (b + 1) _ hs (by omega) hf).mono ?_
  rintro e w1 ⟨rfl, rfl⟩
  go_wp2_with (go_at_call 123; refine (star_r _ _ (by first | exact hs | exact hN | exact hU | exact hH | decide)).mono ?_; rintro e w' ⟨⟨r, rfl, hr1, hr2⟩, rfl⟩)
  all_goals go_ret
  all_goals exact ⟨⟨_, rfl, join_data (by assumption) (by assumption) (by assumption)⟩, drewN_none _⟩

set_option maxRecDepth 1000000 in
set_option maxHeartbeats 4000000 in
/-- an @ ahead of the first ! -/
theorem rcomp_b (s : ByteArray) (b a : Nat) (w : World) (hs : s.size ≤ 1000000) (hb : Lib.indexByte s.data.toList 33 = b) (ha : Lib.indexByte s.data.toList 64 = a) (hba : a < b) (hal : a < s.size) :
    Calls Tryz.prog 96 #[.string s] w fun e w' => (∃ r : ByteArray, e = .returned (.string r) ∧ r.data.toList = joinL (⟨#[]⟩ : ByteArray).data.toList (s.extract 0 a).data.toList (s.extract (a + 1) s.size).data.toList) ∧ ∃ n, w' = w.drewN n := by
  have hl : b < s.size := by have := idx_lt hb; rwa [len_ba] at this
  have hN := size_ex 0 b hs
  have hU := size_ex 0 a hs
  have hH := size_ex (a + 1) s.size hs
  go_enter Tryz.func96, Tryz.ntmps96
  go_wp2_with fail
  refine (index_33 s _ hs hb).mono ?_
  rintro e w1 ⟨rfl, rfl⟩
  go_wp2_with fail
  refine (index_64 s _ hs ha).mono ?_
  rintro e w1 ⟨rfl, rfl⟩
  go_wp2_with fail
  refine (index_64 s _ hs ha).mono ?_
  rintro e w1 ⟨rfl, rfl⟩
  go_wp2_with (go_at_call 123; refine (star_r _ _ (by first | exact hs | exact hN | exact hU | exact hH | decide)).mono ?_; rintro e w' ⟨⟨r, rfl, hr1, hr2⟩, rfl⟩)
  all_goals go_ret
  all_goals exact ⟨⟨_, rfl, join_data (by assumption) (by assumption) (by assumption)⟩, drewN_none _⟩

end Go.Proofs.YtmgnhbihfgpccaaGreatDoor
end
section
/- Both Completes give one answer. -/
namespace Go.Proofs.YtmgnhbihfgpccaaGreatDoor
open Go.RowKit

theorem idx_cases (l : List UInt8) (c : UInt8) : Lib.indexByte l c = -1 ∨ ∃ k : Nat, Lib.indexByte l c = k := by
  have h := Lib.indexByte_ge l c
  by_cases e : Lib.indexByte l c = -1
  · exact .inl e
  · exact .inr ⟨(Lib.indexByte l c).toNat, by omega⟩
theorem idx_of {l : List UInt8} {c : UInt8} {k : Nat} (h : l[k]? = some c) (hn : ∀ j, j < k → l[j]? ≠ some c) : Lib.indexByte l c = k := by
  rcases idx_cases l c with e | ⟨o, e⟩
  · exact absurd h (Lib.indexByte_none e k)
  · have ⟨h1, h2⟩ := Lib.indexByte_some e
    rcases Nat.lt_trichotomy o k with h3 | h3 | h3
    · exact absurd h1 (hn o h3)
    · rw [e, h3]
    · exact absurd h (h2 k h3)
theorem idx_none {l : List UInt8} {c : UInt8} (hn : ∀ j : Nat, l[j]? ≠ some c) : Lib.indexByte l c = -1 := by
  rcases idx_cases l c with e | ⟨o, e⟩
  · exact e
  · exact absurd (Lib.indexByte_some e).1 (hn o)
theorem idx_drop {l : List UInt8} {c : UInt8} {a b : Nat} (h : Lib.indexByte l c = a) (hb : b < a) : Lib.indexByte (l.drop (b + 1)) c = ((a - (b + 1) : Nat) : Int) := by
  have ⟨h1, h2⟩ := Lib.indexByte_some h
  refine idx_of ?_ fun j hj => ?_
  · rw [List.getElem?_drop, show b + 1 + (a - (b + 1)) = a by omega]; exact h1
  · rw [List.getElem?_drop]; exact h2 _ (by omega)
theorem idx_drop_none {l : List UInt8} {c : UInt8} (k : Nat) (h : Lib.indexByte l c = -1) : Lib.indexByte (l.drop k) c = -1 :=
  idx_none fun j => by rw [List.getElem?_drop]; exact Lib.indexByte_none h _
theorem contains_take {l : List UInt8} {c : UInt8} {a b : Nat} (h : Lib.indexByte l c = a) (hb : a < b) : (l.take b).contains c = true := by
  rw [List.contains_iff_mem]
  have ⟨h1, _⟩ := Lib.indexByte_some h
  exact List.mem_of_getElem? (i := a) (by rw [List.getElem?_take_of_lt hb]; exact h1)
theorem contains_take_no {l : List UInt8} {c : UInt8} {b : Nat} (h : ∀ j, j < b → l[j]? ≠ some c) : (l.take b).contains c = false := by
  rw [Bool.eq_false_iff, ne_eq, List.contains_iff_mem]
  intro hm
  obtain ⟨j, hj⟩ := List.mem_iff_getElem?.1 hm
  by_cases e : j < b
  · rw [List.getElem?_take_of_lt e] at hj; exact h j e hj
  · rw [List.getElem?_take_eq_none (by omega)] at hj; cases hj
theorem contains_all {l : List UInt8} {c : UInt8} {a : Nat} (h : Lib.indexByte l c = a) : l.contains c = true := by
  have := contains_take h (b := l.length) (idx_lt h)
  rwa [List.take_length] at this
theorem contains_none {l : List UInt8} {c : UInt8} (h : Lib.indexByte l c = -1) : l.contains c = false := by
  have := contains_take_no (l := l) (c := c) (b := l.length) fun j _ => Lib.indexByte_none h j
  rwa [List.take_length] at this

/-- a mask as a whole one -/
def compS (s : ByteArray) : List UInt8 :=
  let b := Lib.indexByte s.data.toList 33
  let a := Lib.indexByte s.data.toList 64
  if a = -1 then
    if b = -1 then joinL s.data.toList [] [] else joinL (s.extract 0 b.toNat).data.toList (s.extract (b.toNat + 1) s.size).data.toList []
  else if b = -1 ∨ a < b then joinL [] (s.extract 0 a.toNat).data.toList (s.extract (a.toNat + 1) s.size).data.toList
  else joinL (s.extract 0 b.toNat).data.toList (s.extract (b.toNat + 1) a.toNat).data.toList (s.extract (a.toNat + 1) s.size).data.toList

theorem comp_ref (s : ByteArray) (w : World) (hs : s.size ≤ 1000000) :
    Calls Tryz.prog 96 #[.string s] w fun e w' => (∃ r : ByteArray, e = .returned (.string r) ∧ r.data.toList = compS s) ∧ ∃ n, w' = w.drewN n := by
  rcases idx_cases s.data.toList 64 with ha | ⟨a, ha⟩
  · rcases idx_cases s.data.toList 33 with hb | ⟨b, hb⟩
    · rw [show compS s = joinL s.data.toList [] [] from by unfold compS; simp [ha, hb]]
      exact rcomp_d s w hs hb ha
    · rw [show compS s = joinL (s.extract 0 b).data.toList (s.extract (b + 1) s.size).data.toList [] from by unfold compS; simp [ha, hb]]
      exact rcomp_a0 s b w hs hb ha (by unfold ixFrom; rw [if_pos (idx_drop_none _ ha)])
  · have hal := idx_lt ha
    rw [len_ba] at hal
    rcases idx_cases s.data.toList 33 with hb | ⟨b, hb⟩
    · rw [show compS s = joinL [] (s.extract 0 a).data.toList (s.extract (a + 1) s.size).data.toList from by unfold compS; simp [ha, hb]]
      exact rcomp_c s a w hs hb ha
    · by_cases hab : a < b
      · rw [show compS s = joinL [] (s.extract 0 a).data.toList (s.extract (a + 1) s.size).data.toList from by unfold compS; simp [ha, hb, hab]]
        exact rcomp_b s b a w hs hb ha hab hal
      · have hne : a ≠ b := by
          rintro rfl
          have h1 := (Lib.indexByte_some ha).1
          have h2 := (Lib.indexByte_some hb).1
          rw [h1] at h2; cases h2
        have hba : b < a := by omega
        rw [show compS s = joinL (s.extract 0 b).data.toList (s.extract (b + 1) a).data.toList (s.extract (a + 1) s.size).data.toList from by unfold compS; simp [ha, hb]; omega]
        refine rcomp_a s b a w hs hb ha hba hal ?_
        unfold ixFrom
        rw [idx_drop ha hba, if_neg (by omega)]
        omega
theorem comp_glob (s : ByteArray) (w : World) (hs : s.size ≤ 1000000) :
    Calls Tryz.prog 77 #[.string s] w fun e w' => (∃ r : ByteArray, e = .returned (.string r) ∧ r.data.toList = compS s) ∧ ∃ n, w' = w.drewN n := by
  rcases idx_cases s.data.toList 64 with ha | ⟨a, ha⟩
  · rcases idx_cases s.data.toList 33 with hb | ⟨b, hb⟩
    · rw [show compS s = joinL s.data.toList [] [] from by unfold compS; simp [ha, hb]]
      exact comp_d s w hs hb (contains_none ha)
    · rw [show compS s = joinL (s.extract 0 b).data.toList (s.extract (b + 1) s.size).data.toList [] from by unfold compS; simp [ha, hb]]
      exact comp_a0 s b w hs hb (by rw [ba_extract0]; exact contains_take_no fun j _ => Lib.indexByte_none ha j) (by rw [ba_extract_to]; exact idx_drop_none _ ha)
  · rcases idx_cases s.data.toList 33 with hb | ⟨b, hb⟩
    · rw [show compS s = joinL [] (s.extract 0 a).data.toList (s.extract (a + 1) s.size).data.toList from by unfold compS; simp [ha, hb]]
      exact comp_c s a w hs hb (contains_all ha) ha
    · by_cases hab : a < b
      · rw [show compS s = joinL [] (s.extract 0 a).data.toList (s.extract (a + 1) s.size).data.toList from by unfold compS; simp [ha, hb, hab]]
        exact comp_b s b a w hs hb (by rw [ba_extract0]; exact contains_take ha hab) (contains_all ha) ha
      · have hne : a ≠ b := by
          rintro rfl
          have h1 := (Lib.indexByte_some ha).1
          have h2 := (Lib.indexByte_some hb).1
          rw [h1] at h2; cases h2
        have hba : b < a := by omega
        have hal := idx_lt ha
        rw [len_ba] at hal
        have e1 : ((s.extract (b + 1) s.size).extract 0 (a - (b + 1))).data.toList = (s.extract (b + 1) a).data.toList := by
          rw [ba_extract0, ba_extract_to, Lib.extract_data]
        have e2 : ((s.extract (b + 1) s.size).extract (a - (b + 1) + 1) (s.size - (b + 1))).data.toList = (s.extract (a + 1) s.size).data.toList := by
          have := ba_extract_to (s.extract (b + 1) s.size) (a - (b + 1) + 1)
          rw [show (s.extract (b + 1) s.size).size = s.size - (b + 1) from by simp [ByteArray.size_extract]] at this
          rw [this, ba_extract_to, ba_extract_to, List.drop_drop]
          congr 1; omega
        rw [show compS s = joinL (s.extract 0 b).data.toList (s.extract (b + 1) a).data.toList (s.extract (a + 1) s.size).data.toList from by unfold compS; simp [ha, hb]; omega]
        have := comp_a s b (a - (b + 1)) w hs hb (by rw [ba_extract0]; exact contains_take_no fun j hj => (Lib.indexByte_some ha).2 j (by omega)) (by rw [ba_extract_to]; exact idx_drop ha hba)
        rw [e1, e2] at this
        exact this
end Go.Proofs.YtmgnhbihfgpccaaGreatDoor
end
section
/- strings.IndexAny, ContainsAny of whatever bytes, among some ASCII ones: the short road (rune by rune). -/
namespace Go.Proofs.YtmgnhbihfgpccaaGreatDoor
open Go.RowKit

/-- all bytes are ASCII -/
def asciiL (l : List UInt8) : Prop := (l.all fun b => decide (b.toNat < 128)) = true
theorem asciiL.at {l : List UInt8} (h : asciiL l) : ∀ b ∈ l, b.toNat < 128 := fun b hb => by
  have := List.all_eq_true.1 h b hb
  simpa using this
theorem ascii_no {l : List UInt8} (h : asciiL l) {b : UInt8} (hb : 128 ≤ b.toNat) : l.contains b = false := by
  rw [Bool.eq_false_iff, ne_eq, List.contains_iff_mem]
  intro hm
  have := h.at b hm
  omega
theorem getbang (s : ByteArray) (i : Nat) (h : i < s.size) : s.get! i = s[i] := by
  simp [ByteArray.get!, getElem!_pos, h]
  rfl
/-- of what is no ASCII byte as many bytes are taken as are none -/
theorem decode_span (s : ByteArray) (pos : Nat) (h : pos < s.size) (ha : 128 ≤ (s[pos]'h).toNat) : ∀ k, k < (Utf8.decode s pos).2 → ∃ h : pos + k < s.size, 128 ≤ (s[pos + k]'h).toNat := by
  have hc : ∀ k, ((decide (pos + k < s.size) && (s.get! (pos + k)).toNat / 64 == 2) = true) → ∃ h : pos + k < s.size, 128 ≤ (s[pos + k]'h).toNat := by
    intro k hk
    simp only [Bool.and_eq_true, decide_eq_true_eq, beq_iff_eq] at hk
    refine ⟨hk.1, ?_⟩
    have := hk.2
    rw [getbang s _ hk.1] at this
    omega
  have h0 : ∃ h : pos + 0 < s.size, 128 ≤ (s[pos + 0]'h).toNat := ⟨h, ha⟩
  have hn : ¬ (s[pos]'h).toNat < 128 := by omega
  have one : ∀ k, k < 1 → ∃ h : pos + k < s.size, 128 ≤ (s[pos + k]'h).toNat := fun k hk => by
    obtain rfl : k = 0 := by omega
    exact h0
  unfold Utf8.decode
  simp only [get_at s pos h, hn, if_false]
  split
  · rename_i hx
    rw [Bool.and_eq_true] at hx
    have c1 := hc 1 hx.2
    split
    · intro k hk
      rcases (by simp at hk; omega : k = 0 ∨ k = 1) with rfl | rfl
      · exact h0
      · exact c1
    · exact one
  · split
    · rename_i hx
      rw [Bool.and_eq_true, Bool.and_eq_true] at hx
      have c1 := hc 1 hx.1.2
      have c2 := hc 2 hx.2
      split
      · intro k hk
        rcases (by simp at hk; omega : k = 0 ∨ k = 1 ∨ k = 2) with rfl | rfl | rfl
        · exact h0
        · exact c1
        · exact c2
      · exact one
    · split
      · rename_i hx
        rw [Bool.and_eq_true, Bool.and_eq_true, Bool.and_eq_true] at hx
        have c1 := hc 1 hx.1.1.2
        have c2 := hc 2 hx.1.2
        have c3 := hc 3 hx.2
        split
        · intro k hk
          rcases (by simp at hk; omega : k = 0 ∨ k = 1 ∨ k = 2 ∨ k = 3) with rfl | rfl | rfl | rfl
          · exact h0
          · exact c1
          · exact c2
          · exact c3
        · exact one
      · exact one
theorem decode_valid (s : ByteArray) (pos : Nat) (h : pos < s.size) : Utf8.valid ((Utf8.decode s pos).1 : Int) = true := by
  have hb : ∀ k, (s.get! (pos + k)).toNat < 256 := fun k => (s.get! (pos + k)).toNat_lt
  have h0 := hb 0; have h1 := hb 1; have h2 := hb 2; have h3 := hb 3
  have small : ∀ n : Nat, n < 55296 → Utf8.valid (n : Int) = true := fun n hn => by simp [Utf8.valid]; omega
  simp only [Utf8.decode]
  split
  · exact small _ (by omega)
  · split
    · split
      · exact small _ (by omega)
      · rfl
    · split
      · split
        · rename_i hx; rw [Bool.and_eq_true] at hx; exact hx.2
        · rfl
      · split
        · split
          · rename_i hx; rw [Bool.and_eq_true] at hx; exact hx.2
          · rfl
        · rfl

theorem validRune_any (r : Int) (w : World) (h0 : 0 ≤ r) (h1 : r ≤ 1114111) (hv : Utf8.valid r = true) :
    Calls Tryz.prog 191 #[.int .i32 r] w fun e w' => e = .returned (.bool true) ∧ w = w' := by
  have hh : r < 55296 ∨ 57343 < r := by
    rw [validRune_eq, validRune, decide_eq_true_iff] at hv; omega
  clear hv
  rcases hh with h | h
  · go_enter Tryz.func191, Tryz.ntmps191
    go_wp2_with fail
    go_ret
    exact ⟨rfl, rfl⟩
  · have h' : ¬ r < 55296 := by omega
    go_enter Tryz.func191, Tryz.ntmps191
    go_wp2_with fail
    go_ret
    exact ⟨rfl, rfl⟩

theorem should_any (n : Int) (w : World) :
    Calls Tryz.prog 175 #[.int .i64 n] w fun e w' => e = .returned (.bool (decide (8 < n))) ∧ w = w' := by
  go_enter Tryz.func175, Tryz.ntmps175
  go_wp2_with fail
  go_ret
  exact ⟨rfl, rfl⟩
set_option maxRecDepth 1000000 in
set_option maxHeartbeats 2000000 in
theorem idxRune_lo (s : ByteArray) (r : Int) (w : World) (h0 : 0 ≤ r) (h1 : r < 128) :
    Calls Tryz.prog 174 #[.string s, .int .i32 r] w fun e w' => e = .returned (.int .i64 (Lib.indexByte s.data.toList r.toNat.toUInt8)) ∧ w = w' := by
  go_enter Tryz.func174, Tryz.ntmps174
  go_wp2_with (go_at_call 116; refine (idxByte _ _ _).mono ?_; rintro e w' ⟨rfl, rfl⟩)
  go_ret
  exact ⟨rfl, rfl⟩

set_option maxRecDepth 1000000 in
set_option maxHeartbeats 4000000 in
/-- U+FFFD isn't among ASCII bytes -/
theorem idxRune_bad (s : ByteArray) (w : World) (ha : asciiL s.data.toList) (hs : s.size ≤ 1000) :
    Calls Tryz.prog 174 #[.string s, .int .i32 65533] w fun e w' => e = .returned (.int .i64 (-1)) ∧ Below w.heap.size w w' := by
  have HA := Lib.hid ha
  clear ha
  go_enter Tryz.func174, Tryz.ntmps174
  go_wp2_with fail
  go_loopg [5, 6] s.size (fun g _ _ wx => ∃ i : Nat, i + g = s.size ∧ wx = w.iter s i)
  case atStart => exact ⟨0, by omega, rfl⟩
  case round =>
    obtain ⟨i, hig, rfl⟩ := hrel
    cases gk with
    | zero =>
      obtain rfl : i = s.size := by omega
      have hnx := run_next_end (P := Tryz.prog) w s s.size
      go_wp2_with fail
      go_ret
      exact ⟨rfl, (Below.refl _ _).alloc (Nat.le_refl _) _⟩
    | succ g =>
      have hi : i < s.size := by omega
      have hx128 : (s[i]'hi).toNat < 128 := HA.out.at _ (by rw [← get_ba s i hi]; exact List.getElem_mem _)
      have hne : (((s[i]'hi).toNat : Int) == 65533) = false := by rw [beq_eq_false_iff_ne]; omega
      have hnx := fun ty => run_next_ascii (P := Tryz.prog) w s i ty hi hx128
      go_wp2_with fail
      go_roundg g
      case measure => omega
      case rel => exact ⟨i + 1, by omega, rfl⟩

set_option maxRecDepth 1000000 in
set_option maxHeartbeats 4000000 in
/-- a rune that is none of ASCII isn't among ASCII bytes -/
theorem idxRune_hi (s : ByteArray) (r : Int) (w : World) (ha : asciiL s.data.toList) (hs : s.size ≤ 1000) (h0 : 128 ≤ r) (h1 : r ≤ 1114111) (hv : Utf8.valid r = true) (hne : r ≠ 65533) :
    Calls Tryz.prog 174 #[.string s, .int .i32 r] w fun e w' => e = .returned (.int .i64 (-1)) ∧ Below w.heap.size w w' := by
  obtain ⟨f1, f2, f3⟩ := encode_facts r hv h0
  have hb : (r == 65533) = false := by rw [beq_eq_false_iff_ne]; exact hne
  obtain ⟨rs, hrs⟩ : ∃ rs, Utf8.encode r = rs := ⟨_, rfl⟩
  rw [hrs] at f1 f2 f3
  have f4 := f3 (by omega)
  have HV := Lib.hid hv
  have HRS := Lib.hid hrs
  have hno : ∀ k, Lib.indexByte (s.extract k s.size).data.toList rs[rs.size - 1] = -1 := fun k => idx_none fun j hj => by
    have := ha.at _ (by rw [ba_extract_to] at hj; exact List.mem_of_mem_drop (List.mem_of_getElem? hj))
    omega
  have hsz : 1 ≤ rs.size := by omega
  have HNO := Lib.hid hno
  clear hv hrs hne f3 hno
  have hcv : ∀ w, (convert 21 9 (.int .i32 r)).run Tryz.prog w = .ok (.string rs) w := fun w => by
    rw [run_convert_int_string (P := Tryz.prog) w 21 9 .i32 r (by rw [Tryz.underlying21]; rfl) Tryz.underlying9, HRS.out]
  by_cases hl : rs.size - 1 < s.size
  · have hlt := ha.at s[rs.size - 1] (by rw [← get_ba s _ hl]; exact List.getElem_mem _)
    have hq : ((s[rs.size - 1].toNat : Int) != (rs[rs.size - 1].toNat : Int)) = true := by rw [bne_iff_ne]; omega
    have HA := Lib.hid ha
    clear ha
    go_enter Tryz.func174, Tryz.ntmps174
    go_wp2_with (go_at_call 191; refine (validRune_any _ _ (by omega) h1 HV.out).mono ?_; rintro e w' ⟨rfl, rfl⟩)
    go_step3
    go_wp2_with fail
    obtain ⟨n, hn⟩ : ∃ n, n + 1 = rs.size := ⟨rs.size - 1, by omega⟩
    have p1 : (n : Int) < (s.size : Int) := by omega
    have p2 : (n : Int) < (rs.size : Int) := by omega
    have p3 : n < s.size := by omega
    have p4 : n < rs.size := by omega
    have en : rs.size - 1 = n := by omega
    have hq' : ((s[n].toNat : Int) != (rs[n].toNat : Int)) = true := by simpa only [en] using hq
    have hno : ∀ k, Lib.indexByte (s.extract k s.size).data.toList rs[n] = -1 := by simpa only [en] using HNO.out
    have hno2 : ∀ k, Lib.indexByte (s.data.toList.drop k) rs[n] = -1 := fun k => by rw [← ba_extract_to]; exact hno k
    have HN := Lib.hid (And.intro hn en)
    have HO := Lib.hid (And.intro hno hno2)
    clear hq hno hno2 hl hlt hsz en f4
    rw [show ((rs.size : Int) - 1) = (n : Int) from by have := HN.out.1; omega]
    go_loopw [9] (fun i wr => i = .int .i64 n ∧ wr = w) (fun _ _ => 0)
    case atStart => exact ⟨rfl, rfl⟩
    case round =>
      obtain ⟨rfl, rfl⟩ := hrel
      clear hn
      go_wp2_with fail
      go_step3
      go_wp2_with fail
      go_quiet (fail)
      go_wp2_with fail
      generalize hW : wr.drewN nq = W1
      have HW := Lib.hid hW
      clear hW
      have hback : ((rs[n].toNat : Int)).toNat.toUInt8 = rs[n] := by simp
      have s0 : (n : Int) + 1 ≤ (s.size : Int) := by omega
      have s2 : (0 : Int) ≤ (n : Int) + 1 := by omega
      have s3 : ((n : Int) + 1).toNat = n + 1 := by omega
      have s1 : IntKind.i64.wrap ((n : Int) + 1) = (n : Int) + 1 := IntWalk.i64_in _ (by omega)
      go_quiet ((go_at_call 116; refine Calls.quiet_of_same ((idxByte _ _ _).mono fun e w' h => ⟨h.1, h.2.symm⟩)))
      rw [hback, HO.out.1]
      clear s1 s2
      go_wp2_with fail
      rw [Exit.noGoto_ret]
      simp +zetaDelta only [Exit.inBlock, Exit.then, Exit.noGoto_ret]
      go_ret
      exact ⟨rfl, (Below.refl _ _).trans (by rw [← HW.out]; exact ⟨rfl, rfl, rfl, Nat.le_refl _, fun _ _ => rfl⟩)⟩
  · have HA := Lib.hid ha
    clear ha
    go_enter Tryz.func174, Tryz.ntmps174
    go_wp2_with (go_at_call 191; refine (validRune_any _ _ (by omega) h1 HV.out).mono ?_; rintro e w' ⟨rfl, rfl⟩)
    go_step3
    go_wp2_with fail
    go_loopw [9] (fun i wr => i = .int .i64 ((rs.size : Int) - 1) ∧ wr = w) (fun _ _ => 0)
    case atStart => exact ⟨rfl, rfl⟩
    case round =>
      obtain ⟨rfl, rfl⟩ := hrel
      go_wp2_with fail
      rw [Exit.noGoto_ret]
      go_ret
      exact ⟨rfl, Below.refl _ _⟩

set_option maxRecDepth 1000000 in
set_option maxHeartbeats 4000000 in
theorem idxRune_any (s : ByteArray) (r : Nat) (w : World) (ha : asciiL s.data.toList) (hs : s.size ≤ 1000) (h0 : 128 ≤ r) (h1 : r ≤ 1114111) (hv : Utf8.valid (r : Int) = true) :
    Calls Tryz.prog 174 #[.string s, .int .i32 ↑r] w fun e w' => e = .returned (.int .i64 (-1)) ∧ Below w.heap.size w w' := by
  by_cases h : (r : Int) = 65533
  · rw [h]; exact idxRune_bad s w ha hs
  · exact idxRune_hi s r w ha hs (by omega) (by omega) hv h
theorem decode_most (s : ByteArray) (pos : Nat) (h : Utf8.valid ((Utf8.decode s pos).1 : Int) = true) : (Utf8.decode s pos).1 ≤ 1114111 := by
  rw [validRune_eq, validRune, decide_eq_true_iff] at h; omega
theorem NoAny_span {s chars : ByteArray} {i n : Nat} (h : Lib.NoAny s.data.toList chars.data.toList i) (ha : asciiL chars.data.toList) (hn : ∀ k, k < n → ∃ h : i + k < s.size, 128 ≤ (s[i + k]'h).toNat) : Lib.NoAny s.data.toList chars.data.toList (i + n) := by
  intro j b hj hb
  by_cases e : j < i
  · exact h j b e hb
  · obtain ⟨hlt, hge⟩ := hn (j - i) (by omega)
    refine ascii_no ha ?_
    have e2 : i + (j - i) = j := by omega
    have : s.data.toList[j]? = some (s[i + (j - i)]'hlt) := by
      rw [List.getElem?_eq_getElem (by rw [len_ba]; omega)]
      congr 1
      simp only [e2]
      rfl
    rw [this] at hb
    cases hb
    exact hge

set_option maxRecDepth 1000000 in
set_option maxHeartbeats 8000000 in
theorem idxAny_short (s chars : ByteArray) (w : World) (h2 : 2 ≤ chars.size) (hc8 : chars.size ≤ 1000) (h8 : s.size ≤ 8) (ha : asciiL chars.data.toList) :
    Calls Tryz.prog 144 #[.string s, .string chars] w fun e w' => e = .returned (.int .i64 (Lib.indexAny s.data.toList chars.data.toList)) ∧ Below w.heap.size w w' := by
  have HA := Lib.hid ha
  clear ha
  have hemp := str_ne (s := chars) (by omega)
  have hn1 : ((chars.size : Int) == 1) = false := beq_eq_false_iff_ne.2 (by omega)
  have h8z : decide ((8 : Int) < (s.size : Int)) = false := decide_eq_false (by omega)
  go_enter Tryz.func144, Tryz.ntmps144
  go_wp2_with (first | (go_at_call 175; refine (should_any _ _).mono ?_; rintro e w' ⟨rfl, rfl⟩; rw [h8z]))
  go_loopg [9, 10] s.size (fun g _ _ wx => ∃ i : Nat, i + g = s.size ∧ wx.heap[w.heap.size]? = some (.stringIter s i) ∧ Hid (Below w.heap.size w wx ∧ Lib.NoAny s.data.toList chars.data.toList i))
  case atStart => exact ⟨0, by omega, World.iter_heap _ _ _, (Below.refl _ _).alloc (Nat.le_refl _) _, Lib.NoAny.zero _ _⟩
  case round =>
    obtain ⟨i, hig, hk, HX⟩ := hrel
    by_cases hi : i < s.size
    · by_cases ha1 : (s[i]'hi).toNat < 128
      · have hnx := fun ty => Lib.run_next_ascii_at (P := Tryz.prog) wr w.heap.size s i ty hk hi ha1
        have hk2 := Lib.iterAt_heap wr w.heap.size s i (i + 1) hk
        have hb2 := Lib.below_iterAt HX.out.1 (Nat.le_refl _) s (i + 1)
        have hge : (0 : Int) ≤ (s[i].toNat : Int) := by omega
        have hlt : (s[i].toNat : Int) < 128 := by omega
        have hxl : s.data.toList[i]? = some s[i] := by rw [List.getElem?_eq_getElem (by rw [len_ba]; exact hi)]; rfl
        have hcon := Lib.contains_iff_indexByte chars.data.toList s[i]
        have hback : ((s[i].toNat : Int)).toNat.toUInt8 = s[i] := by simp
        have HK := Lib.hid (And.intro hk2 (And.intro hb2 hxl))
        clear hk hk2 hb2 hxl
        cases hin : chars.data.toList.contains s[i]
        · rw [hin] at hcon
          have hneg : Lib.indexByte chars.data.toList s[i] < 0 := by have := of_decide_eq_false hcon.symm; omega
          clear hcon
          have HIN := Lib.hid hin
          clear hin
          go_wp2_with (go_at_call 174; refine (idxRune_lo _ _ _ hge hlt).mono ?_; rintro e w' ⟨rfl, rfl⟩; rw [hback])
          go_roundg (s.size - (i + 1))
          case measure => omega
          case rel => exact ⟨i + 1, by omega, HK.out.1, HK.out.2.1, HX.out.2.succ HK.out.2.2 HIN.out⟩
        · rw [hin] at hcon
          have hneg : 0 ≤ Lib.indexByte chars.data.toList s[i] := of_decide_eq_true hcon.symm
          clear hcon
          have HIN := Lib.hid hin
          clear hin
          go_wp2_with (go_at_call 174; refine (idxRune_lo _ _ _ hge hlt).mono ?_; rintro e w' ⟨rfl, rfl⟩; rw [hback])
          go_ret
          exact ⟨ret_int (by rw [Lib.indexAny_hit HX.out.2 HK.out.2.2 HIN.out]), HK.out.2.1⟩
      · have ha2 : 128 ≤ (s[i]'hi).toNat := by omega
        have hspan := decode_span s i hi ha2
        obtain ⟨d1, d2⟩ := decode_high s i hi ha2
        have dv := decode_valid s i hi
        have dm := decode_most s i dv
        have hnx := fun ty => Lib.run_next_any_at (P := Tryz.prog) wr w.heap.size s i ty hk hi
        obtain ⟨⟨r, n⟩, hd⟩ : ∃ x, Utf8.decode s i = x := ⟨_, rfl⟩
        rw [hd] at hspan d1 d2 dv dm
        simp only [hd] at hnx
        simp only at hspan d1 d2 dv dm
        have hle : i + n ≤ s.size := by obtain ⟨h, _⟩ := hspan (n - 1) (by omega); omega
        have hk2 := Lib.iterAt_heap wr w.heap.size s i (i + n) hk
        have hb2 := Lib.below_iterAt HX.out.1 (Nat.le_refl _) s (i + n)
        have hna := NoAny_span HX.out.2 HA.out hspan
        have HK := Lib.hid (And.intro hk2 (And.intro hb2 hna))
        have DV := Lib.hid dv
        clear hk hk2 hb2 hna hspan dv hd ha1
        go_wp2_with (go_at_call 174; refine (idxRune_any _ _ _ HA.out hc8 d1 dm DV.out).mono ?_; rintro e w2 ⟨rfl, hw2⟩)
        go_roundg (s.size - (i + n))
        case measure => omega
        case rel =>
          refine ⟨i + n, by omega, ?_, ?_, HK.out.2.2⟩
          · rw [hw2.block _ (Array.getElem?_eq_some_iff.1 HK.out.1).1]; exact HK.out.1
          · exact HK.out.2.1.trans (hw2.mono (Nat.le_of_lt (Array.getElem?_eq_some_iff.1 HK.out.1).1))
    · obtain rfl : i = s.size := by omega
      have hnx := Lib.run_next_end_at (P := Tryz.prog) wr w.heap.size s s.size
      have hk3 := fun ty => hnx ty hk (by omega)
      clear hnx
      have HK := Lib.hid hk
      clear hk
      go_wp2_with fail
      go_ret
      exact ⟨ret_int (by rw [Lib.indexAny_none (by rw [len_ba]; exact HX.out.2)]), HX.out.1⟩
end Go.Proofs.YtmgnhbihfgpccaaGreatDoor
end
section
/- strings.ContainsAny of whatever bytes, among some ASCII ones: the shelf's long road beside the short one. -/
namespace Go.Proofs.YtmgnhbihfgpccaaGreatDoor
open Go.RowKit

theorem any_index (l c : List UInt8) : decide ((0 : Int) ≤ Lib.indexAny l c) = l.any fun x => c.contains x := by
  induction l with
  | nil => rfl
  | cons b l ih =>
    rw [List.any_cons, ← ih, Lib.indexAny]
    have hge := Lib.indexAny_ge c l
    cases h : c.contains b with
    | true => simp
    | false =>
      simp only [Bool.false_eq_true, if_false, Bool.false_or]
      by_cases h2 : Lib.indexAny l c = -1
      · rw [h2]; rfl
      · have : (Lib.indexAny l c == -1) = false := by simpa using h2
        rw [this]
        simp only [Bool.false_eq_true, if_false]
        rw [decide_eq_true (by omega), decide_eq_true (by omega)]

theorem Tryz.infoSet : (Tryz.prog.info? 148).map (fun i => (i.zero, i.size)) = some (some (.agg (Array.replicate 256 (.bool false))), 256) := by kernel_rfl

theorem idxAny_all (s chars : ByteArray) (w : World) (hs : s.size ≤ 1000000) (h2 : 2 ≤ chars.size) (hc8 : chars.size ≤ 1000) (ha : asciiL chars.data.toList) :
    Calls Tryz.prog 144 #[.string s, .string chars] w fun e w' => e = .returned (.int .i64 (Lib.indexAny s.data.toList chars.data.toList)) ∧ Below w.heap.size w w' := by
  by_cases h8 : s.size ≤ 8
  · exact idxAny_short s chars w h2 hc8 h8 ha
  · refine (Tryz.strings_IndexAny_long (zero_of_info Tryz.infoSet).1 s chars w h2 (by omega) (by omega) (by omega) fun j b hj => ha.at b (List.mem_of_getElem? hj)).mono fun e w' ⟨h1, h3⟩ => ⟨h1, ?_⟩
    rw [h3]
    exact ((Below.refl _ _).alloc (Nat.le_refl _) _).alloc (by simp) _
theorem containsAnyB (s chars : ByteArray) (w : World) (hs : s.size ≤ 1000000) (h2 : 2 ≤ chars.size) (hc8 : chars.size ≤ 1000) (ha : asciiL chars.data.toList) :
    Calls Tryz.prog 115 #[.string s, .string chars] w fun e w' => e = .returned (.bool (s.data.toList.any fun x => chars.data.toList.contains x)) ∧ Below w.heap.size w w' := by
  have hb := any_index s.data.toList chars.data.toList
  have HB := Lib.hid hb
  clear hb
  go_enter Tryz.func115, Tryz.ntmps115
  go_wp2_with fail
  refine (idxAny_all s chars _ hs h2 hc8 ha).mono ?_
  rintro e w1 ⟨rfl, q⟩
  go_wp2_with fail
  go_ret
  exact ⟨ret_bool HB.out, q⟩
end Go.Proofs.YtmgnhbihfgpccaaGreatDoor
end
section
/- valid.Key, Text, Clean and the answers' ones. -/
namespace Go.Proofs.YtmgnhbihfgpccaaGreatDoor
open Go.RowKit

set_option maxHeartbeats 2000000 in
theorem key_v (s : ByteArray) (w : World) (hs : s.size ≤ 1000000) (hr : Rowed w) :
    Calls Tryz.prog 75 #[.string s] w fun e w' => e = .returned (.bool (dec (KeyP s))) ∧ w = w' := by
  by_cases h : 1 ≤ s.size ∧ s.size ≤ 23
  · have h1 : 1 ≤ s.size := h.1
    have h0 : 0 < s.size := h1
    have e64 : (allI s fun _ b => !isK 64 b) = allI s fun _ b => !decide (b.toNat = 44) := by congr 1; funext _ b; rw [isK64]
    have e32 : (allI (s.extract 0 1) fun _ b => !isK 32 b) = !decide (s[0].toNat = 58) := by rw [extract_one s h1, isK32]
    obtain ⟨x, hx⟩ : ∃ x, (allI s fun _ b => seen b) = x := ⟨_, rfl⟩
    obtain ⟨y, hy⟩ : ∃ x, (allI s fun _ b => !decide (b.toNat = 44)) = x := ⟨_, rfl⟩
    obtain ⟨z, hz⟩ : ∃ x, decide (s[0].toNat = 58) = x := ⟨_, rfl⟩
    rw [hy] at e64
    rw [hz] at e32
    have hfin : (x && y && !z) = dec (KeyP s) := by
      refine dec_of ?_
      unfold KeyP
      simp only [Bool.and_eq_true, Bool.not_eq_true']
      constructor
      · rintro ⟨⟨a, b⟩, c⟩
        rw [← hx, allI_iff] at a
        rw [← hy, allI_iff] at b
        exact ⟨h, fun i hi => ⟨a i hi, by simpa using b i hi⟩, h0, by rw [c] at hz; simpa using hz⟩
      · rintro ⟨_, a, _, c⟩
        refine ⟨⟨by rw [← hx, allI_iff]; exact fun i hi => (a i hi).1, by rw [← hy, allI_iff]; exact fun i hi => by simpa using (a i hi).2⟩, by rw [← hz]; simpa using c⟩
    have hs1 : (s.extract 0 1).size ≤ 1000000 := by simp [ByteArray.size_extract]; omega
    have HX := Lib.hid hx
    have E64 := Lib.hid e64
    have E32 := Lib.hid e32
    have HF := Lib.hid hfin
    clear hx hy hz e64 e32 hfin
    go_enter Tryz.func75, Tryz.ntmps75
    go_wp2_with fail
    refine (sized_yes _ _ _ _ (by omega)).mono ?_
    rintro e w' ⟨rfl, rfl⟩
    go_wp2_with fail
    refine (plain_any _ _ hs).mono ?_
    rintro e w' ⟨rfl, rfl⟩
    rw [HX.out]
    cases x
    · go_wp2_with fail
      go_ret
      exact ⟨ret_bool (by rw [← HF.out]; rfl), rfl⟩
    go_wp2_with fail
    refine (none_any _ _ _ hs hr).mono ?_
    rintro e w' ⟨rfl, rfl⟩
    rw [E64.out]
    cases y
    · go_wp2_with fail
      go_ret
      exact ⟨ret_bool (by rw [← HF.out]; rfl), rfl⟩
    go_wp2_with fail
    refine (none_any _ _ _ hs1 hr).mono ?_
    rintro e w' ⟨rfl, rfl⟩
    rw [E32.out]
    go_wp2_with fail
    go_ret
    exact ⟨ret_bool (by rw [← HF.out]; simp), rfl⟩
  · go_enter Tryz.func75, Tryz.ntmps75
    go_wp2_with (go_at_call 103; refine (sized_no _ _ _ _ (by omega)).mono ?_; rintro e w' ⟨rfl, rfl⟩)
    go_ret
    exact ⟨ret_bool (dec_no fun hh => h hh.1), rfl⟩

set_option maxHeartbeats 2000000 in
theorem key_r (s : ByteArray) (w : World) (hs : s.size ≤ 1000000) :
    Calls Tryz.prog 61 #[.string s] w fun e w' => e = .returned (.bool (dec (KeyP s))) ∧ w = w' := by
  go_enter Tryz.func61, Tryz.ntmps61
  go_wp2_with fail
  go_loopw [3] (fun i wr => ∃ k : Nat, k ≤ s.size ∧ i = .int .i64 k ∧ (∀ i, i < k → ∀ (hi : i < s.size), (fun _ b => seen b && !decide (b.toNat = 44)) i s[i] = true) ∧ wr = w) (fun i _ => s.size - (Go.RowKit.intOf i).toNat)
  case atStart => exact ⟨0, Nat.zero_le _, rfl, fun _ h => absurd h (Nat.not_lt_zero _), rfl⟩
  case round =>
    obtain ⟨k, hk, rfl, hq, rfl⟩ := hrel
    have Hq := Lib.hid hq
    clear hq
    by_cases hlt : k < s.size
    · by_cases hb : 33 ≤ s[k].toNat
      · by_cases hb2 : s[k].toNat ≤ 126
        · cases h44 : ((s[k].toNat : Int) == 44)
          · go_wp2_with fail
            exact ⟨⟨k + 1, by omega, by push_cast; rfl, all_step (p := fun _ b => seen b && !decide (b.toNat = 44)) Hq.out hlt (by simp only [seen]; rw [beq_eq_false_iff_ne] at h44; simp; omega), by simp⟩, by simp only [Go.RowKit.intOf]; omega⟩
          · go_wp2_with fail
            go_ret
            exact ⟨ret_bool (dec_no fun h => by have := h.2.1 k hlt; rw [beq_iff_eq] at h44; simp at this; omega), rfl⟩
        · go_wp2_with fail
          go_ret
          exact ⟨ret_bool (dec_no fun h => by have := h.2.1 k hlt; simp [seen] at this; omega), rfl⟩
      · go_wp2_with fail
        go_ret
        exact ⟨ret_bool (dec_no fun h => by have := h.2.1 k hlt; simp [seen] at this; omega), rfl⟩
    · obtain rfl : k = s.size := by omega
      by_cases h : 1 ≤ s.size ∧ s.size ≤ 23
      · obtain ⟨h1, h2⟩ := h
        have h0 : 0 < s.size := h1
        cases h58 : ((s[0].toNat : Int) != 58)
        · go_wp2_with fail
          go_ret
          exact ⟨ret_bool (dec_no fun hh => by obtain ⟨_, e⟩ := hh.2.2; simp at h58; omega), rfl⟩
        · go_wp2_with fail
          go_ret
          exact ⟨ret_bool (dec_yes ⟨⟨h1, h2⟩, fun i hi => Hq.out i hi hi, h0, by simp at h58; omega⟩), rfl⟩
      · have hd : false = dec (KeyP s) := dec_no fun hh => h hh.1
        have HD := Lib.hid hd
        clear hd
        go_wp2_with fail
        all_goals go_ret
        all_goals exact ⟨ret_bool (by rw [← HD.out]), rfl⟩

/-! Text -/
def brkB (c : UInt8) : Bool := (⟨#[0, 13, 10]⟩ : ByteArray).data.toList.contains c
def textL (l : List UInt8) : Bool := !l.any brkB
theorem inB_false {l : List UInt8} {c : UInt8} : inB l c = false ↔ c ∉ l := by
  unfold inB; rw [Bool.eq_false_iff, ne_eq, List.contains_iff_mem]
theorem textL_iff {l : List UInt8} : textL l = true ↔ ∀ x ∈ l, brkB x = false := by
  unfold textL
  rw [Bool.not_eq_true', List.any_eq_false]
  simp only [Bool.not_eq_true]
theorem brkB_iff {x : UInt8} : brkB x = false ↔ x ≠ 0 ∧ x ≠ 13 ∧ x ≠ 10 := by
  unfold brkB
  rw [Bool.eq_false_iff, ne_eq, List.contains_iff_mem]
  simp
theorem text_three (l : List UInt8) : textL l = (!inB l 0 && !inB l 10 && !inB l 13) := by
  rw [Bool.eq_iff_iff, textL_iff]
  simp only [Bool.and_eq_true, Bool.not_eq_true', inB_false]
  constructor
  · intro h
    exact ⟨⟨fun h0 => (brkB_iff.1 (h 0 h0)).1 rfl, fun h0 => (brkB_iff.1 (h 10 h0)).2.2 rfl⟩, fun h0 => (brkB_iff.1 (h 13 h0)).2.1 rfl⟩
  · rintro ⟨⟨h0, h10⟩, h13⟩ x hx
    exact brkB_iff.2 ⟨fun e => h0 (e ▸ hx), fun e => h13 (e ▸ hx), fun e => h10 (e ▸ hx)⟩
theorem text_v (s : ByteArray) (w : World) (hs : s.size ≤ 1000000) :
    Calls Tryz.prog 87 #[.string s] w fun e w' => e = .returned (.bool (textL s.data.toList)) ∧ Below w.heap.size w w' := by
  obtain ⟨b, hb⟩ : ∃ b, (s.data.toList.any fun x => (⟨#[0, 13, 10]⟩ : ByteArray).data.toList.contains x) = b := ⟨_, rfl⟩
  have ht : textL s.data.toList = !b := by rw [← hb]; rfl
  have HB := Lib.hid hb
  have HT := Lib.hid ht
  clear hb ht
  go_enter Tryz.func87, Tryz.ntmps87
  go_wp2_with fail
  refine (containsAnyB s ⟨#[0, 13, 10]⟩ _ hs (by decide) (by decide) (by unfold asciiL; decide)).mono ?_
  rintro e w1 ⟨rfl, q⟩
  rw [HB.out]
  go_wp2_with fail
  go_ret
  exact ⟨ret_bool (by rw [HT.out]), q⟩


/-! Clean -/
theorem ba_take' (s : ByteArray) (k : Nat) (h : k < s.size) : s.data.toList.take (k + 1) = s.data.toList.take k ++ [s[k]] := by
  rw [List.take_succ_eq_append_getElem (by simpa using h)]; rfl
def cleanL (l : List UInt8) : List UInt8 := l.filter fun c => !brkB c
theorem clean_text {l : List UInt8} (h : textL l = true) : cleanL l = l := by
  unfold cleanL
  rw [List.filter_eq_self]
  intro c hc
  rw [textL_iff.1 h c hc]; rfl
theorem text_clean (l : List UInt8) : textL (cleanL l) = true := by
  rw [textL_iff]
  intro x hx
  unfold cleanL at hx
  have := (List.mem_filter.1 hx).2
  simpa using this
theorem text_take {l : List UInt8} (h : textL l = true) (n : Nat) : textL (l.take n) = true := by
  rw [textL_iff] at h ⊢
  exact fun x hx => h x (List.mem_of_mem_take hx)
theorem clean_snoc (l : List UInt8) (c : UInt8) : cleanL (l ++ [c]) = cleanL l ++ (if brkB c then [] else [c]) := by
  unfold cleanL
  rw [List.filter_append]
  cases h : brkB c <;> simp [h]
theorem clean_len (l : List UInt8) : (cleanL l).length ≤ l.length := List.length_filter_le _ _
theorem clean_next (s : ByteArray) (k : Nat) (h : k < s.size) : cleanL (s.data.toList.take (k + 1)) = cleanL (s.data.toList.take k) ++ (if brkB s[k] then [] else [s[k]]) := by
  rw [ba_take' s k h, clean_snoc]
/-- how many bytes are kept -/
def mostN (n : Nat) (most : Int) : Nat := (max 0 (min (n : Int) most)).toNat
def u8d (l : List UInt8) : List Value := l.map fun b => Value.int .u8 b.toNat
theorem Tryz.infoU8c : (Tryz.prog.info? 5).map (fun i => (i.zero, i.size, i.bytes)) = some (some (.int .u8 0), 1, 1) := by kernel_rfl
theorem idx_brk (c : UInt8) : (0 ≤ Lib.indexByte (⟨#[0, 13, 10]⟩ : ByteArray).data.toList c) ↔ brkB c = true := by
  unfold brkB
  rw [Lib.contains_iff_indexByte, decide_eq_true_iff]

set_option maxRecDepth 100000 in
set_option maxHeartbeats 4000000 in
theorem unbroken_any (s : ByteArray) (w : World) (hs : s.size ≤ 1000000) :
    Calls Tryz.prog 88 #[.string s] w fun e w' => e = .returned (.string (bs (cleanL s.data.toList))) ∧ Below w.heap.size w w' := by
  obtain ⟨i0, hi, hz0, hz1, hz2⟩ := info_parts Tryz.infoU8c
  go_enter Tryz.func88, Tryz.ntmps88
  go_wp2_with (at_make; refine wpList_make_own _ rfl _ _ 81 rfl w.heap.size 5 i0 (.int .u8 0) 1 Tryz.underlying81 hi hz0 hz1 .i64 .i64 (s.size : Int) s.size rfl rfl rfl (by rw [hz2]; omega) (by unfold maxLen; omega) (Nat.le_refl _) ?_; intro w1 hown hgrow)
  have hB0 : Below w.heap.size w w1 := (Below.refl _ _).grown hgrow (Nat.le_refl _) (by intro k hk; cases hk)
  have hb0 := hgrow.size
  clear hgrow
  go_loopw [3, 4, 10] (fun v _ i wr => ∃ k : Nat, i = .int .i64 k ∧ k ≤ s.size ∧ wr.ownsRow w.heap.size 5 1 v (cleanL (s.data.toList.take k)).length (u8d (cleanL (s.data.toList.take k))) ∧ Below w.heap.size w wr ∧ w.heap.size ≤ wr.heap.size) (fun _ _ i _ => s.size - (Go.RowKit.intOf i).toNat)
  case atStart => exact ⟨0, rfl, Nat.zero_le _, hown, hB0, hb0⟩
  case round =>
    clear hown hB0 hb0
    obtain ⟨k, rfl, hk, hown, hB, hb⟩ := hrel
    by_cases hlt : k < s.size
    · have hnx := clean_next s k hlt
      have hl : (cleanL (s.data.toList.take k)).length ≤ 1000000 := by
        have h1 := clean_len (s.data.toList.take k)
        have h2 : (s.data.toList.take k).length ≤ k := List.length_take_le _ _
        omega
      obtain ⟨o, ho⟩ : ∃ o, cleanL (s.data.toList.take k) = o := ⟨_, rfl⟩
      rw [ho] at hnx hown hl
      have hix := idx_brk s[k]
      have hback : ((s[k].toNat : Int)).toNat.toUInt8 = s[k] := by simp
      cases hbr : brkB s[k] with
      | true =>
        rw [hbr] at hnx hix
        have hge : 0 ≤ Lib.indexByte (⟨#[0, 13, 10]⟩ : ByteArray).data.toList s[k] := hix.2 rfl
        have HN := Lib.hid hnx
        clear hnx hix hbr ho
        go_wp2_with (go_at_call 116; refine (idxByte _ _ _).mono ?_; rintro e w' ⟨rfl, rfl⟩; rw [hback])
        go_roundw
        case rel => exact ⟨k + 1, by go_num, by omega, by rw [HN.out]; simpa using hown, hB, hb⟩
        case measure => simp [Go.RowKit.intOf]; omega
      | false =>
        rw [hbr] at hnx hix
        have hge : Lib.indexByte (⟨#[0, 13, 10]⟩ : ByteArray).data.toList s[k] < 0 := by
          have : ¬ 0 ≤ Lib.indexByte (⟨#[0, 13, 10]⟩ : ByteArray).data.toList s[k] := fun h => Bool.noConfusion (hix.1 h)
          omega
        have HN := Lib.hid hnx
        clear hnx hix hbr ho
        go_wp2_with (first | (go_at_call 116; refine (idxByte _ _ _).mono ?_; rintro e w' ⟨rfl, rfl⟩; rw [hback]) | (at_builtin; refine wpList_app_one rfl _ _ 81 rfl w.heap.size 5 i0 (.int .u8 0) 1 1 Tryz.underlying81 hi hz0 hz1 hz2 rfl (by decide) _ _ _ rfl hown #[.int .u8 s[k].toNat] rfl rfl (by intro u hu; simp at hu; subst hu; rfl) (by omega) (by decide) hB hb ?_; intro v1 w1 hown1 hB1 hb1))
        go_roundw
        case rel => exact ⟨k + 1, by go_num, by omega, by rw [HN.out]; simpa [u8d] using hown1, hB1, hb1⟩
        case measure => simp [Go.RowKit.intOf]; omega
    · obtain rfl : k = s.size := by omega
      have ht : s.data.toList.take s.size = s.data.toList := List.take_of_length_le (by simp)
      rw [ht] at hown
      have hconv := conv_owned (P := Tryz.prog) wr 81 9 5 w.heap.size _ (cleanL s.data.toList) Tryz.underlying81 Tryz.underlying5 Tryz.underlying9 hown
      go_wp2_with fail
      go_ret
      exact ⟨rfl, hB⟩

/-- what is cleaned -/
def cleanV (s : ByteArray) (most : Int) : ByteArray := bs ((cleanL s.data.toList).take most.toNat)
theorem most_of (n : Nat) (most : Int) : ∃ m : Nat, max (0 : Int) (min (n : Int) most) = m ∧ m ≤ n ∧ ∀ l : List UInt8, l.length = n → l.take m = l.take most.toNat := by
  by_cases h1 : most < 0
  · exact ⟨0, by omega, by omega, fun l _ => by rw [show most.toNat = 0 by omega]⟩
  · by_cases h2 : most ≤ n
    · exact ⟨most.toNat, by omega, by omega, fun l _ => rfl⟩
    · exact ⟨n, by omega, Nat.le_refl _, fun l hl => by rw [List.take_of_length_le (by omega), List.take_of_length_le (by omega)]⟩
set_option maxRecDepth 100000 in
set_option maxHeartbeats 4000000 in
theorem clean_v (s : ByteArray) (most : Int) (w : World) (hs : s.size ≤ 1000000) :
    Calls Tryz.prog 53 #[.string s, .int .i64 most] w fun e w' => e = .returned (.string (cleanV s most)) ∧ Below w.heap.size w w' := by
  cases ht : textL s.data.toList with
  | true =>
    obtain ⟨m, hm, hml, htk⟩ := most_of s.size most
    have hv : (s.extract 0 m) = cleanV s most := ba_ext (by
      unfold cleanV
      rw [bs_toList, clean_text ht, ← htk _ (by simp), Lib.extract_data]; simp)
    have HT := Lib.hid ht
    have HV := Lib.hid hv
    have hm0 : (m : Int) ≤ s.size := by omega
    clear ht hv htk
    go_enter Tryz.func53, Tryz.ntmps53
    go_wp2_with fail
    refine (text_v _ _ hs).mono ?_
    rintro e w1 ⟨rfl, q⟩
    rw [HT.out]
    go_wp2_with fail
    go_ret
    exact ⟨ret_str (by first | exact HV.out | (rw [← HV.out]; congr 1; omega) | (rw [← HV.out])), q⟩
  | false =>
    have hcl : (bs (cleanL s.data.toList)).size = (cleanL s.data.toList).length := by simp
    have hcs : (bs (cleanL s.data.toList)).size ≤ 1000000 := by
      rw [hcl]
      have := clean_len s.data.toList
      have h2 : s.data.toList.length = s.size := by simp
      omega
    obtain ⟨c, hc⟩ : ∃ c, bs (cleanL s.data.toList) = c := ⟨_, rfl⟩
    have hcd : c.data.toList = cleanL s.data.toList := by rw [← hc]; simp
    rw [hc] at hcs
    obtain ⟨m, hm, hml, htk⟩ := most_of c.size most
    have hv : (c.extract 0 m) = cleanV s most := ba_ext (by
      unfold cleanV
      rw [bs_toList, ← hcd, ← htk _ (by simp), Lib.extract_data]; simp)
    have HT := Lib.hid ht
    have HV := Lib.hid hv
    have HC := Lib.hid hc
    have hm0 : (m : Int) ≤ c.size := by omega
    clear ht hv htk hcl hc hcd
    go_enter Tryz.func53, Tryz.ntmps53
    go_wp2_with fail
    refine (text_v _ _ hs).mono ?_
    rintro e w1 ⟨rfl, q⟩
    rw [HT.out]
    go_wp2_with fail
    refine (unbroken_any _ _ hs).mono ?_
    rintro e w2 ⟨rfl, q2⟩
    rw [HC.out]
    go_wp2_with fail
    go_ret
    exact ⟨ret_str (by first | exact HV.out | (rw [← HV.out]; congr 1; omega) | (rw [← HV.out])), q.trans (q2.mono q.size)⟩
end Go.Proofs.YtmgnhbihfgpccaaGreatDoor
end
