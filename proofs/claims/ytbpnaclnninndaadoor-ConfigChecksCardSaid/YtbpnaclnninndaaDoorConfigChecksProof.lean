/-
  PROVED: ConfigChecks (rollcall/rollcalllaw15.ConfigChecks) returns true whatever it is given, and each argument reads behind the call as it read before. Condition: the listed package-level variables read, when the call begins, as they are laid, which the card ties to the program's text.
-/
import Derived.Test.YtbpnaclnninndaaDoorRows
import Derived.Test.YtbpnaclnninndaaDoorTie
import Derived.Test.YtbpnaclnninndaaDoorCards
import Derived.WalkKit
import Derived.Test.YtbpnaclnninndaaDoorConfJ
import Derived.Test.YtbpnaclnninndaaDoorValidL
import Derived.Test.YtbpnaclnninndaaDoorPost
import Derived.LaidMore
import Derived.Lay
import Derived.SevenTiedAt
import Derived.Stop.Joined
import Derived.ProofKit
import Derived.OpenShut
import Derived.ShutString
namespace Go.Proofs.YtbpnaclnninndaaDoor.configChecks
open Go.ChangeShapes Go.WideShapes Go.ChangeAt Go.RowKit
open Go.ChangeMaps (open_string shut_string)
set_option linter.unusedVariables false

theorem own : ownKnob Tryd.prog.godebug = none := by kernel_rfl

theorem walk (nm ps on op : ByteArray) (n0 n1 n2 n3 n4 n5 n6 n7 n8 n9 n10 : Int) (w0 : nm.size ≤ maxLen) (w1 : ps.size ≤ maxLen) (w2 : on.size ≤ maxLen) (w3 : op.size ≤ maxLen) (w : World) (hR : Rowed w) :
    Calls Tryd.prog 6 #[cfg nm ps on op n0 n1 n2 n3 n4 n5 n6 n7 n8 n9 n10] w fun e w' => e = .returned (.bool true) ∧ Below w.heap.size w w' :=
  configChecks_walk nm ps on op n0 n1 n2 n3 n4 n5 n6 n7 n8 n9 n10 w w0 w1 w2 w3 hR

set_option maxRecDepth 100000 in
theorem lifted (os : Os) (started : os.Started) (H : Type) (enc : TypeId × Value → H) :
    ReturnsInHanded {} Tryd.checked os 6 .any (fun w args => (Rows.configChecksSpec.pre enc Tryd.prog Tryd.f6 Rows.configChecksRow.domain false w args ∧ laidMetH Tryd.prog Rows.configChecksRow.laid w) ∧ sizedMet enc Tryd.prog Tryd.f6 (OpenSpec.ofChange Rows.configChecksSpec) false w args) (Rows.configChecksSpec.post enc Tryd.prog Tryd.f6 false true false false) := by
  refine returnsInHanded_of_change_and (C := Tryd.checked) (X := fun w _ => laidMetH Tryd.prog Rows.configChecksRow.laid w) (fun _ _ _ hh h => h.of_heap hh) own started (by kernel_rfl) Tryd.func6
    (ChangeSpec.witness_shaped (enc := enc) (C := Tryd.checked) (os := os) (X := fun w _ => laidMetH Tryd.prog Rows.configChecksRow.laid w) false (World.laidAll Tryd.prog os Rows.configChecksRow.laid) #[.agg #[.string ByteArray.empty, .string ByteArray.empty, .string ByteArray.empty, .string ByteArray.empty, .int .i64 0, .int .i64 0, .int .i64 0, .int .i64 0, .int .i64 0, .int .i64 0, .int .i64 0, .int .i64 0, .int .i64 0, .int .i64 0, .int .i64 0]] 8 (World.laidAll_os _ _ _)
      (World.shaped_of_ZipB (by kernel_rfl) (by kernel_rfl)) (by kernel_rfl) (by kernel_rfl) (by kernel_rfl)
      (by rw [MakeChecks.laidMetH_plain _ _ _ (by kernel_rfl)]; exact laidMet_laidAll _ (by kernel_rfl) (by kernel_rfl))) ?_
  intro W base args ds gs before hval0 hW hcnd _ hL _
  have hval : ∀ (j : Nat) t v, Tryd.f6.params[j]? = some t → args[j]? = some v → Value.okWide Tryd.prog W .any base t v := hval0
  have hW' := hW
  obtain ⟨p, q, hA0, hV, rfl, hfz, hnd⟩ := hW
  have hA : DataW.TrodAll enc Tryd.prog W 0 (fun _ => true) true Tryd.f6.params.toList args.toList ds p := hA0
  rw [Tryd.params6] at hA hval
  obtain ⟨v0, vs0, d0, ds0, p0, q0, hargs, rfl, rfl, h0, r0⟩ := trodAll_cons hA
  obtain ⟨rfl, rfl, rfl⟩ := trodAll_nil r0
  obtain rfl : args = #[v0] := by cases args; simp_all
  obtain ⟨rfl, rfl⟩ := trodVars_none hV
  obtain ⟨nm, ps, on, op, n0, n1, n2, n3, n4, n5, n6, n7, n8, n9, n10, rfl, w0, w1, w2, w3⟩ := open_cfg (hval 0 34 v0 rfl rfl) h0
  clear hA0 hval0
  simp only [List.append_nil] at hW'
  refine (walk nm ps on op n0 n1 n2 n3 n4 n5 n6 n7 n8 n9 n10 w0 w1 w2 w3 W (rowed_of hL)).mono fun e W' ⟨he, hg⟩ => ?_
  subst he
  exact ⟨_, rfl, post_below (pa := p0 ++ []) (pv := []) hW' (fun _ _ _ => (trodAll_cons_mk (shut_bool Tryd.underlying4 _) trodAll_mk0)) (fun sp _ => (trodAll_cons_mk (cfg_Trod h0) trodAll_mk0)) (fun _ _ => rfl) (by simp)
    hg (ok_one (by kernel_rfl) rfl (okWide_bool_mk Tryd.underlying4 _))⟩

theorem over : Rows.configChecksRow.holds Tryd.pinned (OpenSpec.ofChange Rows.configChecksSpec) :=
  OpenClaim.holds_of_wide 6 Tryd.f6 rfl rfl rfl rfl rfl rfl rfl ⟨rfl, rfl, rfl, rfl, rfl⟩ rfl rfl rfl rfl rfl (by kernel_rfl) Tryd.func6 (by kernel_rfl)
    (of_decide_eq_true (by kernel_rfl)) (by unfold Func.isWrapper; first | (rw [if_pos (by decide +kernel)]; kernel_rfl) | (rw [if_neg (by decide +kernel)]; exact ⟨rfl, rfl⟩))
    (fun os started H enc _ => lifted os started H enc)

theorem card : Rows.ConfigChecksCardSaid :=
  Claim7.holds_tied_plain_at .later [] [.data] true (true, "19e965e11e31b0c5b39e07fa01e095a9528ec902d54bb387ee39a7942c9c6623") false over (fun _ h => by cases h) (by kernel_rfl) (fun _ h => by cases h) configChecks_row_tie rfl ⟨rfl, rfl⟩ (by kernel_rfl) rfl
    (fun f fn hf hfn => by
      obtain rfl : f = 6 := Option.some.inj ((show Tryd.prog.funcNamed "rollcall/rollcalllaw15.ConfigChecks" = some 6 by kernel_rfl).symm.trans hf) |>.symm
      obtain rfl : fn = Tryd.f6 := (Option.some.inj (Tryd.func6.symm.trans hfn)).symm
      exact ⟨by kernel_rfl, fun j t ht => by
        rw [Tryd.params6] at ht
        have hm : t ∈ [34] := by simpa using Array.mem_of_getElem? ht
        have hall : ([34].all fun u => !Tryd.prog.wantsStandIn u) = true := by kernel_rfl
        exact (show Tryd.prog.wantsStandIn t = false by simpa using List.all_eq_true.1 hall t hm)⟩)
    (by kernel_rfl)
theorem proved : Rows.ConfigChecksCardSaid :=
  card
#print axioms proved
end Go.Proofs.YtbpnaclnninndaaDoor.configChecks
