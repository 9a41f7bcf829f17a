/- Layer 14: great, the answers' Code; the law ReplyShort. -/
import Derived.Test.YtmoioihclnpcbaaDoorRepH
namespace Go.Proofs.YtmoioihclnpcbaaDoor
set_option linter.unusedVariables false
set_option linter.unusedSimpArgs false
open Go Go.RowKit

/-- is it more than is looked at? -/
def greatL (ps : List (List UInt8)) : Bool := decide (20 < ps.length) || ps.any fun p => decide (200 < p.length)
theorem great_mem {ps : List (List UInt8)} (h : greatL ps = false) : ps.length ≤ 20 ∧ ∀ p ∈ ps, p.length ≤ 200 := by
  unfold greatL at h
  rw [Bool.or_eq_false_iff] at h
  refine ⟨by simpa using h.1, fun p hp => ?_⟩
  have := List.any_eq_false.1 h.2 p hp
  simpa using this
set_option maxHeartbeats 4000000 in
theorem greatM (A : Option Addr) (c : Nat) (ps : List (List UInt8)) (w : World) (hR : ReadsT w A ps) (hl : ps.length ≤ 9223372036854775807) :
    Calls Tryd.prog 7 #[.slice A ps.length c] w fun e w' => e = .returned (.bool (greatL ps)) ∧ w' = w := by
  by_cases h20 : 20 < ps.length
  · have hq : (20 : Int) < ps.length := by omega
    have HG : Hid (greatL ps = true) := by show greatL ps = true; unfold greatL; rw [decide_eq_true h20]; rfl
    clear h20
    go_enter Tryd.func7, Tryd.ntmps7
    go_wp2_with fail
    go_ret
    exact ⟨ret_bool HG.out.symm, rfl⟩
  · have hq : ¬ (20 : Int) < ps.length := by omega
    have HR := Lib.hid hR
    have H20 := Lib.hid h20
    clear hR h20
    go_enter Tryd.func7, Tryd.ntmps7
    go_wp2_with fail
    go_loopw [3] (fun i wr => ∃ k : Nat, k ≤ ps.length ∧ i = .int .i64 k ∧ (∀ j (h : j < ps.length), j < k → ps[j].length ≤ 200) ∧ w = wr) (fun i _ => ps.length - (intOf i).toNat)
    case atStart => exact ⟨0, Nat.zero_le _, rfl, fun _ _ h => absurd h (Nat.not_lt_zero _), rfl⟩
    case round =>
      obtain ⟨k, hk, rfl, hall, rfl⟩ := hrel
      have HALL := Lib.hid hall
      clear hall
      by_cases hlt : k < ps.length
      · obtain ⟨g, o, hA, hg, hc⟩ := HR.out (by omega)
        have hcell := hc k hlt
        obtain ⟨p, hp⟩ : ∃ p, ps[k] = p := ⟨_, rfl⟩
        rw [hp] at hcell
        have HP := Lib.hid hp
        subst hA
        clear hc hp
        by_cases hbig : 200 < p.length
        · have hb2 : (200 : Int) < p.length := by omega
          have HG : Hid (greatL ps = true) := by
            show greatL ps = true
            unfold greatL
            rw [Bool.or_eq_true]
            exact .inr (List.any_eq_true.2 ⟨p, HP.out ▸ List.getElem_mem hlt, decide_eq_true hbig⟩)
          clear hbig
          go_wp2_with fail
          go_ret
          exact ⟨ret_bool HG.out.symm, rfl⟩
        · have hb2 : ¬ (200 : Int) < p.length := by omega
          have HB := Lib.hid hbig
          clear hbig
          go_wp2_with fail
          refine ⟨⟨k + 1, by omega, by push_cast; rfl, fun j hj hjk => ?_, by simp⟩, by simp only [intOf]; omega⟩
          rcases Nat.lt_or_ge j k with h | h
          · exact HALL.out j hj h
          · obtain rfl : j = k := by omega
            have e1 := HP.out; have e2 := HB.out
            rw [e1]; omega
      · obtain rfl : k = ps.length := by omega
        go_wp2_with fail
        go_ret
        refine ⟨ret_bool ?_, rfl⟩
        unfold greatL
        rw [decide_eq_false H20.out, Bool.false_or]
        symm
        rw [List.any_eq_false]
        intro p hp
        obtain ⟨j, hj, rfl⟩ := List.getElem_of_mem hp
        simpa using HALL.out j hj hj
set_option maxRecDepth 100000 in
set_option maxHeartbeats 4000000 in
theorem codeM (n : Nat) (h1 : n ≤ 999) (w : World) :
    Calls Tryd.prog 9 #[.int .i64 n] w fun e w' => e = .returned (.string (bs (codeL n))) ∧ Below w.heap.size w w' := by
  have hnew := heap_alloc_new w (.cells #[.int .u8 (48 + (n : Int) / 100), .int .u8 (48 + (n : Int) / 10 % 10), .int .u8 (48 + (n : Int) % 10)] 5)
  have hconv := run_convert_bytes_back (P := Tryd.prog) (w.alloc (.cells #[.int .u8 (48 + (n : Int) / 100), .int .u8 (48 + (n : Int) / 10 % 10), .int .u8 (48 + (n : Int) % 10)] 5)) 32 9 5 ⟨w.heap.size, 0, none⟩ 3 (codeL n) Tryd.underlying32 Tryd.underlying5 Tryd.underlying9 (fun j hj => by
    have hj3 : j < 3 := by simpa [codeL] using hj
    have hadd : (⟨w.heap.size, 0, none⟩ : Addr).add j = ⟨w.heap.size, j, none⟩ := by unfold Addr.add; split <;> simp_all
    rw [hadd, blk_cell hnew j]
    obtain rfl | rfl | rfl : j = 0 ∨ j = 1 ∨ j = 2 := by omega
    · show some (Value.int .u8 (48 + (n : Int) / 100)) = some (Value.int .u8 ((d14 (n / 100)).toNat : Int))
      rw [d14_nat]; congr 2; omega
    · show some (Value.int .u8 (48 + (n : Int) / 10 % 10)) = some (Value.int .u8 ((d14 (n / 10)).toNat : Int))
      rw [d14_nat]; congr 2
    · show some (Value.int .u8 (48 + (n : Int) % 10)) = some (Value.int .u8 ((d14 n).toNat : Int))
      rw [d14_nat]; congr 2)
  have hlen : (codeL n).length = 3 := rfl
  rw [hlen] at hconv
  clear hnew hlen
  go_enter Tryd.func9, Tryd.ntmps9
  go_wp2_with fail
  go_ret
  exact ⟨rfl, (Below.refl _ w).alloc (Nat.le_refl _) _⟩
end Go.Proofs.YtmoioihclnpcbaaDoor
