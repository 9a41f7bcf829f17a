/- Texts of this proof, one behind the other. -/
import Derived.Test.YtadbpgkhenbpfaaSendqPlaysG8
import Derived.Below
import Derived.ChangeSame
section
/- Layer 8: SendqPlays, whatever is given. -/
namespace Go.Proofs.Ytadbpgkhenbpfaa
set_option linter.unusedVariables false
set_option linter.unusedSimpArgs false
open Go Go.RowKit Go.Lib Go.Sort Go.Shelf

set_option maxRecDepth 100000 in
set_option maxHeartbeats 4000000 in
theorem sendqPlays_walk (most : Int) (A : Option Addr) (l : List zsqT) (cc : Nat) (w : World) (hA : ActsQ w A l) :
    Calls Try.prog 3 #[.int .i64 most, .slice A l.length cc] w fun e w' => e = .returned (.bool true) ∧ RowKit.Below w.heap.size w w' := by
  by_cases h1 : l.length ≤ 40
  · by_cases hm : 512 ≤ most ∧ most ≤ 65536
    · exact sendqPlays_main most hm.1 hm.2 A l cc w h1 hA
    · have HA := Lib.hid hA
      clear hA
      go_enter Try.func3, Try.ntmps3
      go_wp2_with fail
      refine (awake8 w).mono ?_
      rintro e w1 ⟨rfl, b1⟩
      have H0 := Lib.hid b1
      clear b1
      go_wp2_with fail
      go_loopw [5] (fun i wr => ∃ (k : Nat), i = .int .i64 k ∧ k ≤ l.length ∧ Hid (RowKit.Below w.heap.size w wr)) (fun i _ => l.length - (RowKit.intOf i).toNat)
      case atStart => exact ⟨0, rfl, Nat.zero_le _, H0⟩
      case round =>
        obtain ⟨k, rfl, hk, HQ⟩ := hrel
        clear H0
        by_cases hlt : k < l.length
        · obtain ⟨g, o, rfl, hat⟩ := actsQ_at HA.out hlt
          obtain ⟨a0, a1, a2⟩ := hat wr HQ.out
          obtain ⟨⟨κ, S, N⟩, hy⟩ : ∃ y, l[k] = y := ⟨_, rfl⟩
          rw [hy] at a0 a1 a2
          have p0 : (k : Int) < (l.length : Int) := by omega
          clear hat hy
          by_cases h6 : S.size ≤ 600
          · have p6 : ¬ ((600 : Int) < (S.size : Int)) := by omega
            go_wp2_with fail
            go_roundw
            case rel => exact ⟨k + 1, by go_num, by omega, HQ⟩
            case measure => simp [RowKit.intOf]; omega
          · have p6 : (600 : Int) < (S.size : Int) := by omega
            go_wp2_with fail
            go_ret
            exact ⟨rfl, HQ.out⟩
        · obtain rfl : k = l.length := by omega
          have p1 : ¬ ((l.length : Int) < (l.length : Int)) := by omega
          by_cases h5 : most < 512
          · go_wp2_with fail
            refine (q_new_no most (.inl h5) wr).mono ?_
            rintro e w2 ⟨rfl, rfl⟩
            go_wp2_with fail
            go_ret
            exact ⟨rfl, HQ.out⟩
          · have h6 : 65536 < most := by omega
            go_wp2_with fail
            refine (q_new_no most (.inr h6) wr).mono ?_
            rintro e w2 ⟨rfl, rfl⟩
            go_wp2_with fail
            go_ret
            exact ⟨rfl, HQ.out⟩
  · have p1 : (40 : Int) < (l.length : Int) := by omega
    clear hA
    go_enter Try.func3, Try.ntmps3
    go_wp2_with fail
    refine (awake8 w).mono ?_
    rintro e w1 ⟨rfl, b1⟩
    have B1 := Lib.hid b1
    clear b1
    go_wp2_with fail
    go_ret
    exact ⟨rfl, B1.out⟩
end Go.Proofs.Ytadbpgkhenbpfaa
end
section
/- A law's last step where the call has made memory of its own, of whatever sort: what lay before lies as it lay, so each argument reads as it read. -/
namespace Go.Proofs.Ytadbpgkhenbpfaa
open Go Go.RowKit Go.WideShapes Go.ChangeShapes

theorem post_below {H : Type} {enc : TypeId × Value → H} {P : Program} {f : Func} {s : ChangeSpec} {apart fresh handsOn again : Bool} {W W' : World} {args : Array Value} {v : Value} {ds gs : List (DataW H)} {all pa pv : List MemPlace}
    (hW : DataW.Whole enc P f.params.toList s.vars apart W args.toList ds gs all)
    (hr : ∀ (b : Nat) (sp : Nat → Bool) (hd : Bool), DataW.TrodAll enc P W' b sp hd f.resultTypes.toList (v.resultList f.resultTypes.size) (s.fn H (ds ++ gs)).results [])
    (ha : ∀ sp : Nat → Bool, (∀ p ∈ all, sp p.block = true) → DataW.TrodAll enc P W' 0 sp true f.params.toList args.toList (s.fn H (ds ++ gs)).args pa)
    (hv : ∀ sp : Nat → Bool, (∀ p ∈ all, sp p.block = true) → DataW.TrodVars enc P W' sp s.vars (s.fn H (ds ++ gs)).vars pv)
    (hpl : all = pa ++ pv) (hB : Below W.heap.size W W')
    (hok : ∀ (j : Nat) (t : TypeId) (r : Value), f.resultTypes[j]? = some t → (v.resultList f.resultTypes.size)[j]? = some r → Value.okWide P W' .any 0 t r) :
    s.post enc P f apart fresh handsOn again W args v W' := by
  have low : ∀ p ∈ all, p.block < W.heap.size := fun p hp => hW.lt p hp
  refine ⟨ds, gs, all, [], pa, pv, hW, hr _ _ _, ha (fun b => decide (b < W.heap.size)) fun p hp => by simpa using low p hp, hv (fun b => decide (b < W.heap.size)) fun p hp => by simpa using low p hp,
    World.keptBut_mono (fun p hp => ⟨hp, .inr (by rw [hpl, List.mem_append] at hp; exact hp)⟩) (hB.frame (· ∈ all)), fun _ => ?_⟩
  obtain ⟨_, _, _, _, _, hfrozen, hapart⟩ := hW
  have same : ∀ p : MemPlace, p ∈ ([] ++ pa) ++ pv → p ∈ all := fun p hp => by rw [hpl]; simpa using hp
  refine ⟨hok, _, _, ([] ++ pa) ++ pv, ⟨[] ++ pa, pv, trodAll_append (ha _ fun _ _ => rfl) (hr _ _ _), hv _ fun _ _ => rfl, rfl, fun b off hp => ?_, fun h => ?_⟩, fun p hp _ => ?_⟩
  · rw [hB.frozen (low _ (same _ hp))]
    exact hfrozen b off (same _ hp)
  · have := hapart h
    rw [hpl] at this
    simpa using this
  · rw [hpl]
    simpa using hp
end Go.Proofs.Ytadbpgkhenbpfaa
end
