/- Layer 10: whether two things are one; slices.CompactFunc at []int by that. -/
import Derived.Test.YteiiaocohpbanaaBase
import Derived.Test.YteiiaocohpbanaaChecked
import Derived.Outline
import Derived.Deep.LoopGhost
import Derived.Deep.QuietTactic
import Derived.BigQuiet
import Derived.Deep.Draws
import Derived.Lib.Hide
import Derived.Sort.WalkB12
import Derived.Sort.WalkA
import Derived.Sort.EncStr
import Derived.Lib.SliceRun
import Derived.Lib.SlicesS
import Derived.Lib.SlicesCompact
namespace Go.Proofs.Yteiiaocohpbanaa
set_option linter.unusedVariables false
set_option linter.unusedSimpArgs false
open Go.RowKit Go.Lib Go.Sort

theorem isNaN_int (a : Int) (w : World) : Calls Try.prog 41 #[.int .i64 a] w fun e w' => e = .returned (.bool false) ∧ w' = w := by
  go_enter Try.func41, Try.ntmps41
  go_wp2_with fail
  go_ret
  exact ⟨ret_bool (by simp), rfl⟩
theorem compare_int (a b : Int) (w : World) : Calls Try.prog 38 #[.int .i64 a, .int .i64 b] w fun e w' => e = .returned (.int .i64 (if a < b then -1 else if b < a then 1 else 0)) ∧ w' = w := by
  rcases Int.lt_trichotomy a b with h | h | h
  · rw [if_pos h]
    go_enter Try.func38, Try.ntmps38
    go_wp2_with (go_at_call 41; refine (isNaN_int _ _).mono ?_; rintro e w' ⟨rfl, rfl⟩)
    go_ret
    exact ⟨rfl, rfl⟩
  · subst h
    rw [if_neg (Int.lt_irrefl a), if_neg (Int.lt_irrefl a)]
    have h1 : ¬ a < a := Int.lt_irrefl a
    go_enter Try.func38, Try.ntmps38
    go_wp2_with (go_at_call 41; refine (isNaN_int _ _).mono ?_; rintro e w' ⟨rfl, rfl⟩)
    go_ret
    exact ⟨rfl, rfl⟩
  · have h1 : ¬ a < b := by omega
    rw [if_neg h1, if_pos h]
    go_enter Try.func38, Try.ntmps38
    go_wp2_with (go_at_call 41; refine (isNaN_int _ _).mono ?_; rintro e w' ⟨rfl, rfl⟩)
    go_ret
    exact ⟨rfl, rfl⟩
theorem same_int (a b : Int) (w : World) : Calls Try.prog 30 #[.int .i64 a, .int .i64 b] w fun e w' => e = .returned (.bool (a == b)) ∧ w' = w := by
  obtain ⟨c, hc⟩ : ∃ c : Int, (if a < b then -1 else if b < a then 1 else 0) = c := ⟨_, rfl⟩
  have hcmp := compare_int a b w
  rw [hc] at hcmp
  have he : (c == 0) = (a == b) := by
    rw [← hc, Bool.eq_iff_iff, beq_iff_eq, beq_iff_eq]
    split
    · constructor <;> intro h <;> omega
    · split
      · constructor <;> intro h <;> omega
      · constructor <;> intro h <;> omega
  have HE := Lib.hid he
  have HC := Lib.hid hcmp
  clear he hc hcmp
  go_enter Try.func30, Try.ntmps30
  go_wp2_with fail
  refine HC.out.mono ?_
  rintro e w' ⟨rfl, rfl⟩
  go_wp2_with fail
  go_ret
  exact ⟨ret_bool HE.out, rfl⟩
theorem same_yes (a : Int) (w : World) : Calls Try.prog 30 #[.int .i64 a, .int .i64 a] w fun e w' => e = .returned (.bool true) ∧ w' = w := (same_int a a w).mono fun e w' h => ⟨by rw [h.1]; simp, h.2⟩
theorem same_no (a b : Int) (h : a ≠ b) (w : World) : Calls Try.prog 30 #[.int .i64 a, .int .i64 b] w fun e w' => e = .returned (.bool false) ∧ w' = w := (same_int a b w).mono fun e w' k => ⟨by rw [k.1, beq_eq_false_iff_ne.2 h], k.2⟩

theorem zero_int (w : World) : (zeroValue 3).run Try.prog w = .ok (.int .i64 0) w := by kernel_rfl
theorem store_world_I {w wr : World} {n blk off : Nat} {dk : Array Int} {i : Nat} (hi : i < dk.size) (hwr : wr = putRow encI (Sort.ahead w n) blk off dk) (x : Int) :
    (wr.setCell ⟨blk, off + i, none⟩ (encI x)).drew = putRow encI (Sort.ahead w (n + 1)) blk off (dk.setIfInBounds i x) := by
  subst hwr
  rw [putRow_set encI _ blk off dk i x hi, ← ahead_drew]
  rfl

set_option maxHeartbeats 4000000 in
set_option maxRecDepth 1000000 in
theorem compactFunc_arr (blk off cap : Nat) (d : Array Int) (w : World) (hH : Holds encI w blk off d) (hsz : d.size ≤ 9223372036854775807) (hcap : d.size ≤ cap) :
    Calls Try.prog 32 #[.slice (some ⟨blk, off, none⟩) d.size cap, .func (.func 30) #[] #[]] w fun e w' => e = .returned (.slice (some ⟨blk, off, none⟩) (compactUpTo d d.size).length cap) ∧ ∃ q, w' = putRow encI (Sort.ahead w q) blk off (compactUpTo d d.size ++ List.replicate (d.size - (compactUpTo d d.size).length) 0).toArray := by
  have mixed : Try.prog.follows Departure.mixedOrders = true := by kernel_rfl
  have same : ∀ q, (∀ j, j < d.size → keeps d j = true) → (compactUpTo d d.size).length = d.size ∧ w.drewN q = putRow encI (Sort.ahead w q) blk off (compactUpTo d d.size ++ List.replicate (d.size - (compactUpTo d d.size).length) 0).toArray := by
    intro q hall
    have e : compactUpTo d d.size = d.toList := by rw [compactUpTo_all d _ hall, range_map_get]
    rw [e]
    refine ⟨by simp, ?_⟩
    simp only [Array.length_toList, Nat.sub_self, List.replicate_zero, List.append_nil, Array.toArray_toList]
    exact (putRow_self encI (Sort.ahead w q) blk off d (holds_ahead encI w q blk off d hH)).symm
  have HS := Lib.hid same
  clear same
  by_cases h2 : d.size < 2
  · have HH := Lib.hid hH
    clear hH
    go_enter Try.func32, Try.ntmps32
    go_wp2_with fail
    go_ret
    obtain ⟨e1, e2⟩ := HS.out 0 (fun j hj => keeps_lt_one d j (by omega))
    exact ⟨by rw [e1]; rfl, 0, e2⟩
  · go_enter Try.func32, Try.ntmps32
    go_wp2_with fail
    go_loopg [5] d.size (fun g s3 wr => ∃ k : Nat, 1 ≤ k ∧ k ≤ d.size ∧ d.size - k ≤ g ∧ s3 = .int .i64 k ∧ Hid (∃ q, wr = w.drewN q) ∧ Hid (∀ j, j < k → keeps d j = true))
    case atStart => exact ⟨1, Nat.le_refl _, by omega, by omega, rfl, ⟨0, rfl⟩, keeps_lt_one d⟩
    case round =>
      obtain ⟨k, hk1, hk, hg, rfl, HQ, A⟩ := hrel
      have hHr : Holds encI wr blk off d := by obtain ⟨q, rfl⟩ := HQ.out; exact hH
      by_cases hlt : k < d.size
      · obtain ⟨c1, f1⟩ := hHr k hlt
        obtain ⟨c0, f0⟩ := hHr (k - 1) (by omega)
        have HH := Lib.hid hH
        clear hH hHr
        generalize hx : d[k]! = x at c1
        generalize hy : d[k - 1]! = y at c0
        have c1 : wr.cell? ⟨blk, off + k, none⟩ = some (.int .i64 x) := c1
        have c0 : wr.cell? ⟨blk, off + (k - 1), none⟩ = some (.int .i64 y) := c0
        have B := Lib.hid (And.intro hx hy)
        clear hx hy
        have s1 : IntKind.i64.wrap ((k : Int) - 1) = k - 1 := by rw [IntKind.wrap_i64]; omega
        have s2 : (0 : Int) ≤ (k : Int) - 1 := by omega
        have s3 : ((k : Int) - 1).toNat = k - 1 := by omega
        have s4 : (k : Int) - 1 < (d.size : Int) := by omega
        have s5 : (k : Int) < (d.size : Int) := by omega
        have s6 : (0 : Int) ≤ (k : Int) := by omega
        have s7 : (1 : Int) ≤ (k : Int) := by omega
        have s8 : (k : Int) ≤ (d.size : Int) := by omega
        have s9 : (k : Int) < (d.size : Int) + 1 := by omega
        by_cases hdup : x = y
        · subst hdup
          go_wp2_with fail
          go_quiet ((go_at_call 30; exact Calls.quiet_of_same (same_yes _ _)))
          go_wp2_with fail
          clear c0 c1 f0 f1 s1 s2 s3 s4
          have HW : Hid (∃ q, wr.drewN nq = putRow encI (Sort.ahead w q) blk off d) := by
            obtain ⟨q, rfl⟩ := HQ.out
            exact ⟨q + nq, by rw [World.drewN_drewN]; exact (putRow_self encI (Sort.ahead w (q + nq)) blk off d (holds_ahead encI w (q + nq) blk off d HH.out)).symm⟩
          go_loopg [5, 7] d.size (fun g s3 s5 wr => ∃ (kk k2 : Nat) (dk : Array Int), s3 = .int .i64 kk ∧ s5 = .int .i64 k2 ∧ 1 ≤ k2 ∧ k + k2 ≤ d.size ∧ d.size - (k + k2) ≤ g ∧ Hid (∃ q2, wr = putRow encI (Sort.ahead w q2) blk off dk) ∧ CompInv d (k + k2) kk dk)
          case atStart => exact ⟨k, 1, d, rfl, rfl, Nat.le_refl _, by omega, by omega, HW, CompInv.start A.out (keeps_neg (by omega) (by rw [B.out.1, B.out.2]))⟩
          case round =>
            obtain ⟨kk, k2, dk, rfl, rfl, h1, hle, hg2, HWr, hI⟩ := hrel
            have hkk := hI.lt
            have hds := hI.size
            have hHk : Holds encI wr blk off dk := by obtain ⟨q2, hwr⟩ := HWr.out; rw [hwr]; exact holds_putRow encI _ blk off d dk (holds_ahead encI w q2 blk off d HH.out) hds
            have I2 := Lib.hid hI
            by_cases hlt2 : k + k2 < d.size
            · obtain ⟨cm, _⟩ := hHk (k + k2) (by omega)
              obtain ⟨cp, _⟩ := hHk (k + k2 - 1) (by omega)
              obtain ⟨ck, fk⟩ := hHk kk (by omega)
              rw [hI.high (k + k2) (by omega), show off + (k + k2) = off + k + k2 by omega] at cm
              rw [hI.high (k + k2 - 1) (by omega), show off + (k + k2 - 1) = off + k + (k2 - 1) by omega] at cp
              have hkkd : kk < dk.size := by omega
              have hkkd2 : kk < d.size := by omega
              clear hHk hI hds
              generalize hu : d[k + k2]! = u at cm
              generalize hv : d[k + k2 - 1]! = v at cp
              generalize dk[kk]! = old at ck
              have cm : wr.cell? ⟨blk, off + k + k2, none⟩ = some (.int .i64 u) := cm
              have cp : wr.cell? ⟨blk, off + k + (k2 - 1), none⟩ = some (.int .i64 v) := cp
              have C := Lib.hid (And.intro hu hv)
              clear hu hv
              have t1 : IntKind.i64.wrap ((k2 : Int) - 1) = k2 - 1 := by rw [IntKind.wrap_i64]; omega
              have t2 : (0 : Int) ≤ (k2 : Int) - 1 := by omega
              have t3 : ((k2 : Int) - 1).toNat = k2 - 1 := by omega
              have t4 : (k2 : Int) - 1 < ((d.size - k : Nat) : Int) := by omega
              have t5 : (k2 : Int) < ((d.size - k : Nat) : Int) := by omega
              have t6 : (0 : Int) ≤ (k2 : Int) := by omega
              have t7 : (1 : Int) ≤ (k2 : Int) := by omega
              have t8 : (k2 : Int) ≤ ((d.size - k : Nat) : Int) := by omega
              have t9 : (k2 : Int) < ((d.size - k : Nat) : Int) + 1 := by omega
              by_cases huv : u = v
              · subst huv
                go_wp2_with fail
                go_quiet ((go_at_call 30; exact Calls.quiet_of_same (same_yes _ _)))
                clear t1 t2 t3 t4
                go_wp2_with fail
                go_roundg (d.size - (k + (k2 + 1)))
                case measure => omega
                case rel => exact ⟨kk, k2 + 1, dk, rfl, by go_num, by omega, by omega, Nat.le_refl _, by obtain ⟨q2, hwr⟩ := HWr.out; exact ⟨q2 + nq, by rw [hwr, putRow_drewN]⟩, I2.out.skip (keeps_neg (by omega) (by rw [C.out.1, C.out.2]))⟩
              · go_wp2_with fail
                go_quiet ((go_at_call 30; exact Calls.quiet_of_same (same_no _ _ huv _)))
                clear t1 t2 t3 t4
                go_wp2_with fail
                go_roundg (d.size - (k + (k2 + 1)))
                case measure => omega
                case rel => exact ⟨kk + 1, k2 + 1, dk.setIfInBounds kk u, by go_num, by go_num, by omega, by omega, Nat.le_refl _, by obtain ⟨q2, hwr⟩ := HWr.out; exact ⟨q2 + nq, by rw [hwr, putRow_drewN]; exact putRow_set encI _ blk off dk kk u hkkd⟩, by have := I2.out.keep hlt2 (keeps_pos (by rw [C.out.1, C.out.2]; exact huv)); rwa [C.out.1] at this⟩
            · have hend : k + k2 = d.size := by omega
              have hcl : ∀ ty, (Builtin.clear_ #[26] ty #[.slice (some ⟨blk, off + kk, none⟩) (d.size - kk) (cap - kk)]).run Try.prog wr = .ok (.tuple #[]) (wr.setCells blk (off + kk) (List.replicate (d.size - kk) (encI 0))) :=
                fun ty => Lib.run_clear_slice wr _ _ ty _ Try.underlying26 zero_int rfl rfl blk (off + kk) _ _ (by omega) (fun j hj => by rw [show off + kk + j = off + (kk + j) by omega, (hHk (kk + j) (by omega)).1]; rfl) (fun j hj => by rw [show off + kk + j = off + (kk + j) by omega]; exact (hHk (kk + j) (by omega)).2)
              have HEND := Lib.hid hend
              have e2 : ¬ (k2 : Int) < ((d.size - k : Nat) : Int) := by omega
              clear hHk hI hend hds
              go_wp2_with fail
              go_ret
              obtain ⟨q2, hwr⟩ := HWr.out
              have hI := I2.out
              rw [HEND.out] at hI
              refine ⟨by rw [hI.len]; rfl, q2, ?_⟩
              rw [hI.len, ← hI.done 0, ← putRow_setCells encI _ blk off _ dk kk (by have := hI.size; simp; omega), ← hwr, List.map_replicate]
        · go_wp2_with fail
          go_quiet ((go_at_call 30; exact Calls.quiet_of_same (same_no _ _ hdup _)))
          clear s1 s2 s3 s4
          go_wp2_with fail
          go_roundg (d.size - (k + 1))
          case measure => omega
          case rel =>
            refine ⟨k + 1, by omega, by omega, Nat.le_refl _, by go_num, by obtain ⟨q, hq⟩ := HQ.out; exact ⟨q + nq, by rw [hq, World.drewN_drewN]⟩, fun j hj => ?_⟩
            by_cases e : j = k
            · subst e
              exact keeps_pos (by rw [B.out.1, B.out.2]; exact hdup)
            · exact A.out j (by omega)
      · have : k = d.size := by omega
        subst this
        have HH := Lib.hid hH
        clear hH hHr
        go_wp2_with fail
        go_ret
        obtain ⟨q, hq⟩ := HQ.out
        obtain ⟨e1, e2⟩ := HS.out q A.out
        exact ⟨by rw [e1]; rfl, q, hq.trans e2⟩
end Go.Proofs.Yteiiaocohpbanaa
