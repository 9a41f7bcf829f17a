/- fold.Runs: the walk of its function that ranges. -/
import Derived.Test.YtfdaeajafmcjcaaFoldE
import Derived.Outline
namespace Go.Proofs.Ytfdaeajafmcjcaa
open Go.RowKit Go.Shelf
attribute [local go_sem] Oper.semAt_some

theorem runs_any (s : ByteArray) (w : World) :
    Calls Try.prog 41 #[.string s] w fun e w' => e = .returned (.func (.func 51) #[] #[.pointer (some ⟨w.heap.size, 0, none⟩)]) ∧ w' = w.alloc (.cells #[.string s] 9) := by
  go_enter Try.func41, Try.ntmps41
  go_wp2
  go_ret
  exact ⟨rfl, rfl⟩

set_option maxRecDepth 100000 in
set_option maxHeartbeats 1000000 in
theorem runs_stops (n : Nat) (hn : 2 ≤ n) (B : Nat) (s : ByteArray) (w : World) (hs : s.size ≤ 1000000) (hB : B < w.heap.size) (hc : w.cell? ⟨B, 0, none⟩ = some (.string s)) :
    SeqStopsK Fence.wide n Try.prog 51 #[.pointer (some ⟨B, 0, none⟩)] encPiece (fun _ _ => True)
      (fun xs => RunsAt s.data.toList xs []) (fun pre => ∃ r, RunsAt s.data.toList pre r) s.size w := fun l J Jx W hW hJ hJx hY h0 => by
  have hc1 : W.cell? ⟨B, 0, none⟩ = some (.string s) := (hW.cell (p := ⟨B, 0, none⟩) hB).trans hc
  refine callsIn_of_wp Try.func51 rfl trivial ?_ rfl
  simp only [Try.ntmps51, List.size_toArray, List.length_cons, List.length_nil, Nat.reduceAdd, Nat.reduceSub, Array.replicate_succ, Array.replicate_zero, List.push_toArray, List.append_toArray, List.nil_append, List.cons_append]
  gi_wp2
  refine wpIn_scope ?_
  gi_wp2
  refine wpIn_label ?_
  gi_wp2
  gi_loopw [3] (fun p wr => ∃ (pre : List Piece) (R : ByteArray), p = .string R ∧ Hid (RunsAt s.data.toList pre R.data.toList ∧ R.size ≤ s.size) ∧ J pre wr) (fun p _ => match p with | .string R => R.size | _ => 0)
  case atStart => exact ⟨[], s, rfl, ⟨runsAt_nil _, Nat.le_refl _⟩, h0⟩
  case round =>
    obtain ⟨pre, R, rfl, HR, hJs⟩ := hrel
    by_cases hR : R.size = 0
    · have hRb := str_em hR
      have hd := HR.out.1
      rw [str_nil hR] at hd
      have Hd := Lib.hid hd
      clear hd hR
      gi_wp2_with fail
      rw [noGoto_normal]
      go_end0
      exact ⟨⟨_, rfl⟩, .inl ⟨pre, Hd.out, hJs⟩⟩
    · have hR0 : 0 < R.size := by omega
      have hRb := str_ne hR0
      have hRs : R.size ≤ 1000000 := by have := HR.out.2; omega
      have hlen : pre.length < s.size := by
        have := HR.out.1
        rw [show R.data.toList = R.data.toList.drop 0 from rfl, ba_drop R 0 hR0] at this
        simpa using this.bound
      clear hR
      gi_wp2_with fail
      refine ⟨trivial, fun _ => by omega, ((callsIn_wide (n := n - 1)).2 (turns_tb _ _)).mono ?_⟩
      rintro e w' ⟨rfl, rfl⟩
      obtain ⟨t, ht⟩ : ∃ t, t = tb R[0] := ⟨_, rfl⟩
      rw [← ht]
      have Ht := Lib.hid ht
      clear ht
      gi_wp2_with fail
      gi_loop [3, 14] (fun p i => ∃ k : Nat, p = .string R ∧ i = .int .i64 k ∧ k ≤ R.size ∧ Hid (∀ j (h : j < R.size), j < k → tb R[j] = t)) (fun _ i => R.size - (intOf i).toNat)
      case atStart => exact ⟨0, rfl, rfl, Nat.zero_le _, fun j _ h => absurd h (Nat.not_lt_zero j)⟩
      case round =>
        obtain ⟨k, rfl, rfl, hk, Hk⟩ := hrel
        by_cases hlt : k < R.size
        · gi_wp2_with fail
          refine ⟨trivial, fun _ => by omega, ((callsIn_wide (n := n - 1)).2 (turns_tb _ _)).mono ?_⟩
          rintro e w' ⟨rfl, rfl⟩
          by_cases he : tb R[k] = t
          · have heb : (tb R[k] == t) = true := by rw [he]; simp
            have He := Lib.hid he
            clear he
            gi_wp2_with fail
            go_round
            case rel => exact ⟨k + 1, rfl, by go_num, by omega, fun j h hj => by
              by_cases hjk : j = k
              · subst hjk; exact He.out
              · exact Hk.out j h (by omega)⟩
            case measure => simp [intOf]; omega
          · have heb : (tb R[k] == t) = false := by rw [beq_eq_false_iff_ne]; exact he
            have He := Lib.hid he
            clear he
            have hsz : (R.extract 0 k).size ≤ 1000000 := by simp; omega
            obtain ⟨fn, tmps, assign, body, hy, hR⟩ := hY pre ⟨(R.extract 0 k, t), hsz⟩ wr hJs hlen
            dsimp only [encPiece] at hy
            gi_wp2_with fail
            refine ⟨fun _ => by omega, hR.mono ?_⟩
            rintro e W3 (⟨rfl, hJ3, _⟩ | ⟨rfl, hJx3⟩)
            · have hcut := HR.out.1.cut k hlt t Ht.out Hk.out He.out ⟨(R.extract 0 k, t), hsz⟩ rfl
              have hsm : (R.extract k R.size).size < R.size := by
                have hk0 : k ≠ 0 := by rintro rfl; exact He.out Ht.out.symm
                simp; omega
              have Hcut := Lib.hid (And.intro hcut (And.intro hsm HR.out.2))
              clear hcut hsm
              gi_wp2_with fail
              go_roundw
              case rel => exact ⟨pre ++ [⟨(R.extract 0 k, t), hsz⟩], _, rfl, ⟨Hcut.out.1, by have := Hcut.out.2; omega⟩, hJ3⟩
              case measure => exact Hcut.out.2.1
            · have hcut := HR.out.1.cut k hlt t Ht.out Hk.out He.out ⟨(R.extract 0 k, t), hsz⟩ rfl
              have Hcut := Lib.hid hcut
              clear hcut
              gi_wp2_with fail
              rw [noGoto_ret']
              refine bodyPost_ret (results_none rfl _ _ _) rfl ?_
              exact ⟨⟨_, rfl⟩, .inr ⟨_, ⟨_, Hcut.out⟩, hJx3⟩⟩
        · have hlast := HR.out.1.last hR0 t (fun j h hj => Hk.out j h (by omega)) ⟨(R, t), hRs⟩ rfl
          have Hlast := Lib.hid hlast
          clear hlast
          obtain ⟨fn, tmps, assign, body, hy, hR⟩ := hY pre ⟨(R, t), hRs⟩ wr hJs hlen
          dsimp only [encPiece] at hy
          gi_wp2_with fail
          refine ⟨fun _ => by omega, hR.mono ?_⟩
          rintro e W3 (⟨rfl, hJ3, _⟩ | ⟨rfl, hJx3⟩)
          · gi_wp2_with fail
            rw [noGoto_ret']
            refine bodyPost_ret (results_none rfl _ _ _) rfl ?_
            exact ⟨⟨_, rfl⟩, .inl ⟨_, Hlast.out, hJ3⟩⟩
          · gi_wp2_with fail
            rw [noGoto_ret']
            refine bodyPost_ret (results_none rfl _ _ _) rfl ?_
            exact ⟨⟨_, rfl⟩, .inr ⟨_, ⟨_, Hlast.out⟩, hJx3⟩⟩
end Go.Proofs.Ytfdaeajafmcjcaa
