/- The answers' Match: row by row. -/
import Derived.Test.YteepgklilhljiaaDoorGlobB
import Derived.Test.YteepgklilhljiaaDoorOwn
import Derived.IntWalk
namespace Go.Proofs.YteepgklilhljiaaDoor
open Go.RowKit

theorem bl_congr {f g : Nat → Bool} {n : Nat} (h : ∀ i, i < n → f i = g i) : bl f n = bl g n := by
  apply List.ext_getElem?
  intro i
  by_cases hl : i < n
  · rw [bl_get f hl, bl_get g hl, h i hl]
  · rw [List.getElem?_eq_none (by rw [bl_len]; omega), List.getElem?_eq_none (by rw [bl_len]; omega)]
/-- a row as far as it is reckoned -/
def part (m s : List UInt8) (k i j : Nat) : Bool := decide (j < i) && row m s k j
theorem part_zero (m s : List UInt8) (k : Nat) (n : Nat) : bl (part m s k 0) n = bl (fun _ => false) n := bl_congr fun i _ => by simp [part]
theorem part_all (m s : List UInt8) (k : Nat) (n : Nat) : bl (part m s k n) n = bl (row m s k) n := bl_congr fun i h => by simp [part, h]
theorem part_set (m s : List UInt8) (k i n : Nat) (b : Bool) (h : row m s k i = b) : (bl (part m s k i) n).set i (.bool b) = bl (part m s k (i + 1)) n :=
  bl_set _ _ b (by simp [part, h]) fun j _ hj => by
    unfold part
    by_cases h1 : j < i
    · simp [h1, show j < i + 1 by omega]
    · simp [h1, show ¬ j < i + 1 by omega]
theorem part_same (m s : List UInt8) (k i n : Nat) (h : row m s k i = false) : bl (part m s k i) n = bl (part m s k (i + 1)) n :=
  bl_congr fun j _ => by
    unfold part
    by_cases h1 : j = i
    · subst h1; simp [h]
    · by_cases h2 : j < i
      · simp [h2, show j < i + 1 by omega]
      · simp [h2, show ¬ j < i + 1 by omega]
theorem Tryd.infoB : (Tryd.prog.info? 4).map (fun i => (i.zero, i.size, i.bytes)) = some (some (.bool false), 1, 1) := by kernel_rfl

/-- what the inner loop keeps -/
structure Two (w : World) (m s : List UInt8) (k g g2 i n : Nat) (W : World) : Prop where
  now : W.ownsRow w.heap.size 4 1 (.slice (some ⟨g, 0, none⟩) n n) n (bl (row m s k) n)
  next : W.ownsRow w.heap.size 4 1 (.slice (some ⟨g2, 0, none⟩) n n) n (bl (part m s (k + 1) i) n)
  below : Below w.heap.size w W
  ne : g ≠ g2
theorem Two.set {w : World} {m s : List UInt8} {k g g2 i n : Nat} {W : World} (h : Two w m s k g g2 i n W) (b : Bool) (hb : row m s (k + 1) i = b) : Two w m s k g g2 (i + 1) n (W.setCell ⟨g2, i, none⟩ (.bool b)) := by
  obtain ⟨h1, h2⟩ := h.next.stored i (.bool b)
  refine ⟨h.now.kept h2 (.inr ?_), ?_, ?_, h.ne⟩
  · simp [Value.ownBlock]; exact h.ne
  · rw [part_set _ _ _ _ _ _ hb] at h1; exact h1
  · exact h.below.setCell (p := ⟨g2, i, none⟩) (h.next.lt g2 rfl).1 _
theorem Two.skip {w : World} {m s : List UInt8} {k g g2 i n : Nat} {W : World} (h : Two w m s k g g2 i n W) (hb : row m s (k + 1) i = false) : Two w m s k g g2 (i + 1) n W :=
  ⟨h.now, part_same m s (k + 1) i n hb ▸ h.next, h.below, h.ne⟩
theorem Two.drew {w : World} {m s : List UInt8} {k g g2 i n : Nat} {W : World} (h : Two w m s k g g2 i n W) : Two w m s k g g2 i n W.drew := ⟨h.now, h.next, h.below.drew, h.ne⟩
theorem Two.cellNow {w : World} {m s : List UInt8} {k g g2 i n : Nat} {W : World} (h : Two w m s k g g2 i n W) {j : Nat} (hj : j < n) {b : Bool} (hb : row m s k j = b) : W.cell? ⟨g, j, none⟩ = some (.bool b) := by
  rw [h.now.cellAt j (by omega), bl_get _ hj, hb]
theorem Two.cellNext {w : World} {m s : List UInt8} {k g g2 i n : Nat} {W : World} (h : Two w m s k g g2 i n W) {j : Nat} (hj : j < n) : W.cell? ⟨g2, j, none⟩ = some (.bool (part m s (k + 1) i j)) := by
  rw [h.next.cellAt j (by omega), bl_get _ hj]

theorem own_first {w1 : World} {B n : Nat} {e : TypeId} (h : w1.ownsRow B e 1 (.slice (some ⟨B, 0, none⟩) (n + 1) (n + 1)) (n + 1) (madeCells (Value.bool false).cells ((n + 1) * 1)).toList) : w1.cell? ⟨B, 0, none⟩ = some (.bool false) := by
  rw [show (madeCells (Value.bool false).cells ((n + 1) * 1)).toList = bl (fun _ => false) (n + 1) from by rw [Nat.mul_one]; exact bl_false _] at h
  rw [h.cellAt 0 (by omega), bl_get _ (by omega)]
set_option maxRecDepth 100000 in
set_option maxHeartbeats 8000000 in
theorem rmatch_any (m s : ByteArray) (w : World) (hm : m.size ≤ 1000000) (hs : s.size ≤ 1000000) :
    Calls Tryd.prog 27 #[.string m, .string s] w fun e w' => e = .returned (.bool (mm m.data.toList s.data.toList)) ∧ Below w.heap.size w w' := by
  have mixed : Tryd.prog.follows Departure.mixedOrders = true := by kernel_rfl
  obtain ⟨i0, hi, hz0, hz1, hz2⟩ := info_parts Tryd.infoB
  have hlm := len_ba m
  have hls := len_ba s
  go_enter Tryd.func27, Tryd.ntmps27
  go_wp2_with (at_make; refine wpList_make_full _ rfl _ _ 45 rfl w.heap.size 4 i0 (.bool false) 1 Tryd.underlying45 hi hz0 hz1 .i64 .i64 ((s.size : Int) + 1) ((s.size : Int) + 1) (s.size + 1) rfl rfl (by push_cast; rfl) (by push_cast; rfl) (by rw [hz2]; omega) (by unfold maxLen; omega) (Nat.le_refl _) ?_; intro w1 hown hgrow; have hc0 := own_first hown; have hf0 := hown.frozenAt 0)
  have hB0 : Below w.heap.size w w1 := (Below.refl _ _).grown hgrow (Nat.le_refl _) (by intro k hk; cases hk)
  have hb0 := hgrow.size
  rw [show (madeCells (Value.bool false).cells ((s.size + 1) * 1)).toList = bl (fun _ => false) (s.size + 1) from by rw [Nat.mul_one]; exact bl_false _] at hown
  have hown1 := (hown.stored 0 (.bool true)).1
  have hB1 : Below w.heap.size w (w1.setCell ⟨w.heap.size, 0, none⟩ (.bool true)) := hB0.setCell (p := ⟨w.heap.size, 0, none⟩) (Nat.le_refl _) _
  rw [show (bl (fun _ => false) (s.size + 1)).set 0 (.bool true) = bl (row m.data.toList s.data.toList 0) (s.size + 1) from bl_set _ _ true (by rw [row_zero _ _ (by omega)]; rfl) fun i hi hi2 => by rw [row_zero _ _ (by omega)]; simpa using hi2] at hown1
  clear hown hgrow hB0
  go_wp2_with fail
  go_loopw [5, 6] (fun v i wr => ∃ k g : Nat, i = .int .i64 k ∧ k ≤ m.size ∧ v = .slice (some ⟨g, 0, none⟩) (s.size + 1) (s.size + 1) ∧ wr.ownsRow w.heap.size 4 1 v (s.size + 1) (bl (row m.data.toList s.data.toList k) (s.size + 1)) ∧ Below w.heap.size w wr) (fun _ i _ => m.size - (intOf i).toNat)
  case atStart => exact ⟨0, _, rfl, Nat.zero_le _, rfl, hown1, hB1⟩
  case round =>
    clear hown1 hB1 hc0 hf0 hb0
    obtain ⟨k, g, rfl, hk, rfl, hown, hB⟩ := hrel
    by_cases hlt : k < m.size
    · have hbs := hB.size
      go_wp2_with (at_make; refine wpList_make_full _ rfl _ _ 45 rfl w.heap.size 4 i0 (.bool false) 1 Tryd.underlying45 hi hz0 hz1 .i64 .i64 ((s.size : Int) + 1) ((s.size : Int) + 1) (s.size + 1) rfl rfl (by push_cast; rfl) (by push_cast; rfl) (by rw [hz2]; omega) (by unfold maxLen; omega) (by omega) ?_; intro w2 hown2 hgrow2)
      have hT : Two w m.data.toList s.data.toList k g wr.heap.size 0 (s.size + 1) w2 := by
        refine ⟨hown.kept hgrow2 (.inr (by simp [Value.ownBlock])), ?_, hB.grown hgrow2 hbs (by intro k hk; cases hk), ?_⟩
        · rw [part_zero]
          rw [show (madeCells (Value.bool false).cells ((s.size + 1) * 1)).toList = bl (fun _ => false) (s.size + 1) from by rw [Nat.mul_one]; exact bl_false _] at hown2
          exact hown2
        · have := (hown.lt g rfl).2; omega
      have hgl := (hown.lt g rfl).1
      clear hown hB hown2 hgrow2 hbs
      obtain ⟨wo, hwo⟩ : ∃ wo : World, wo = wr := ⟨_, rfl⟩
      subst hwo
      go_loopw [8] (fun j wi => ∃ i : Nat, j = .int .i64 i ∧ i ≤ s.size + 1 ∧ Two w m.data.toList s.data.toList k g wo.heap.size i (s.size + 1) wi) (fun j _ => s.size + 1 - (intOf j).toNat)
      case atStart => exact ⟨0, rfl, Nat.zero_le _, hT⟩
      case round =>
        clear hT
        obtain ⟨i, rfl, hi2, hT⟩ := hrel
        have hge : 0 ≤ (m[k].toNat : Int) := by omega
        by_cases hin : i < s.size + 1
        · have hle : i ≤ s.size := by omega
          have hcs := hT.cellNext hin
          have hfs := hT.next.frozenAt i
          have HT := Lib.hid hT
          by_cases h1 : m[k] = 42
          · have hc1 : ((m[k].toNat : Int) == 42) = true := by rw [h1]; rfl
            have hstar := row_star m.data.toList s.data.toList (k := k) (i := i) (by omega) (by omega) h1
            cases hb1 : row m.data.toList s.data.toList k i with
            | true =>
              have hcn := hT.cellNow hin hb1
              rw [hb1, Bool.true_or] at hstar
              have R := Lib.hid (hT.set true hstar)
              clear hT hstar hb1 h1
              go_wp2_with fail
              go_roundw
              case rel => exact ⟨i + 1, by go_num, by omega, R.out⟩
              case measure => simp [intOf]; omega
            | false =>
              have hcn := hT.cellNow hin hb1
              rw [hb1, Bool.false_or] at hstar
              by_cases h0 : i = 0
              · subst h0
                have R := Lib.hid (hT.set false (by rw [hstar]; rfl))
                clear hT hstar hb1 h1
                go_wp2_with fail
                go_roundw
                case rel => exact ⟨1, by go_num, by omega, R.out⟩
                case measure => simp [intOf]
              · have h0' : 1 ≤ i := by omega
                have hi1 : i - 1 < s.size + 1 := by omega
                have hcp := hT.cellNext hi1
                have hp : part m.data.toList s.data.toList (k + 1) i (i - 1) = row m.data.toList s.data.toList (k + 1) (i - 1) := by unfold part; simp; omega
                rw [hp] at hcp
                rw [show decide (0 < i) = true from decide_eq_true (by omega), Bool.true_and] at hstar
                have R := Lib.hid (hT.set _ hstar)
                cases hb2 : row m.data.toList s.data.toList (k + 1) (i - 1)
                all_goals
                  rw [hb2] at hcp R
                  clear hT hstar hb1 h1 hb2 hp h0
                  go_wp2_with fail
                  go_roundw
                  case rel => exact ⟨i + 1, by go_num, by omega, R.out⟩
                  case measure => simp [intOf]; omega
          · have hc1 : ((m[k].toNat : Int) == 42) = false := by
              rw [beq_eq_false_iff_ne]; intro e; exact h1 (UInt8.toNat_inj.mp (by have : (42 : UInt8).toNat = 42 := rfl; omega))
            by_cases h0 : i = 0
            · subst h0
              have R := Lib.hid (hT.skip (row_other0 m.data.toList s.data.toList (k := k) (by omega) h1))
              clear hT h1
              go_wp2_with fail
              go_roundw
              case rel => exact ⟨1, by go_num, by omega, R.out⟩
              case measure => simp [intOf]
            · have h0' : 1 ≤ i := by omega
              have hi1 : i - 1 < s.size + 1 := by omega
              have hi1s : i - 1 < s.size := by omega
              have hoth := row_other m.data.toList s.data.toList (k := k) (i := i - 1) (by omega) (by omega) h1
              rw [show i - 1 + 1 = i by omega] at hoth
              cases hb1 : row m.data.toList s.data.toList k (i - 1) with
              | false =>
                have hcn := hT.cellNow hi1 hb1
                rw [hb1, Bool.false_and] at hoth
                have R := Lib.hid (hT.skip hoth)
                clear hT hoth hb1 h1 h0
                go_wp2_with fail
                go_roundw
                case rel => exact ⟨i + 1, by go_num, by omega, R.out⟩
                case measure => simp [intOf]; omega
              | true =>
                have hcn := hT.cellNow hi1 hb1
                rw [hb1, Bool.true_and, get_ba m k hlt, get_ba s _ hi1s] at hoth
                have R := Lib.hid (hT.set _ hoth)
                have q1 : (1 : Int) ≤ (i : Int) ∧ (i : Int) - 1 < (s.size : Int) := by omega
                have q2 : (1 : Int) ≤ (i : Int) := by omega
                have q3 : (i : Int) - 1 < (s.size : Int) := by omega
                have q4 : (i : Int) < (s.size : Int) + 1 := by omega
                have q5 : (k : Int) < (m.size : Int) := by omega
                cases h2 : ((m[k].toNat : Int) == 63)
                · have e : (m[k] == 63) = false := by rw [← u8_beq m[k] 63]; exact h2
                  obtain ⟨bb, hbb⟩ : ∃ bb, mb m[k] s[i - 1] = bb := ⟨_, rfl⟩
                  rw [hbb] at R
                  unfold mb at hbb
                  rw [e, Bool.false_or, ← u8_beq] at hbb
                  clear hT hoth hb1 h1 h0 e
                  go_wp2_with fail
                  have s1 : IntKind.i64.wrap ((i : Int) - 1) = (i : Int) - 1 := IntWalk.i64_in _ (by omega)
                  have s2 : (0 : Int) ≤ (i : Int) - 1 := by omega
                  have s3 : ((i : Int) - 1).toNat = i - 1 := by omega
                  go_region_with_o (refine (refbyte _ _).mono ?_; rintro e w' ⟨rfl, rfl⟩)
                  all_goals try clear s1
                  all_goals go_wp2_with fail
                  all_goals go_roundw
                  all_goals first | (case rel => exact ⟨i + 1, by go_num, by omega, R.out.drew⟩) | (case measure => simp [intOf]; omega)
                · have e : (m[k] == 63) = true := by rw [← u8_beq m[k] 63]; exact h2
                  rw [show mb m[k] s[i - 1] = true from by unfold mb; rw [e, Bool.true_or]] at R
                  clear hT hoth hb1 h1 h0 e
                  go_wp2_with fail
                  go_region
                  all_goals go_wp2_with fail
                  all_goals go_roundw
                  all_goals first | (case rel => exact ⟨i + 1, by go_num, by omega, R.out.drew⟩) | (case measure => simp [intOf]; omega)
        · obtain rfl : i = s.size + 1 := by omega
          have hnow := hT.next
          rw [part_all] at hnow
          have hB := hT.below
          clear hT
          go_wp2_with fail
          go_roundw
          case rel => exact ⟨k + 1, _, by go_num, by omega, rfl, hnow, hB⟩
          case measure => simp [intOf]; omega
    · obtain rfl : k = m.size := by omega
      have hc : wr.cell? ⟨g, s.size, none⟩ = some (.bool (mm m.data.toList s.data.toList)) := by
        rw [hown.cellAt _ (by omega), bl_get _ (by omega), ← row_all, hlm, hls]
      go_wp2_with fail
      go_ret
      exact ⟨rfl, hB⟩
end Go.Proofs.YteepgklilhljiaaDoor
