/-
  PROVED: PersonLines (rollcall/rollcalllaw22.PersonLines) returns true whatever it is given, and each argument reads behind the call as it read before. Condition: the listed package-level variables read, when the call begins, as they are laid, which the card ties to the program's text.
-/
import Derived.Test.YtkbgpajconhgjaaGreatDoorRows
import Derived.Test.YtkbgpajconhgjaaGreatDoorTie
import Derived.Test.YtkbgpajconhgjaaGreatDoorCards
import Derived.LaidMore
import Derived.Lay
import Derived.SevenTiedAt
import Derived.Stop.Joined
import Derived.WalkKit
import Derived.Test.YtkbgpajconhgjaaGreatDoorPersonLinesG15
import Derived.Test.YtkbgpajconhgjaaGreatDoorPersonLinesG16
import Derived.ProofKit
import Derived.OpenShut
import Derived.ShutString
namespace Go.Proofs.YtkbgpajconhgjaaGreatDoor.personLines
open Go.ChangeShapes Go.WideShapes Go.ChangeAt Go.RowKit
open Go.ChangeMaps (open_string shut_string)
set_option linter.unusedVariables false

theorem own : ownKnob Tryz.prog.godebug = none := by kernel_rfl
theorem laidOut : laidOutB Tryz.prog = true := by kernel_rfl
theorem readable : readAll Tryz.prog Tryz.f3.params.toList = true := by kernel_rfl

set_option maxRecDepth 100000 in
theorem lifted (os : Os) (started : os.Started) (H : Type) (enc : TypeId × Value → H) :
    ReturnsInHanded {} Tryz.checked os 3 .any (fun w args => (Rows.personLinesSpec.pre enc Tryz.prog Tryz.f3 Rows.personLinesRow.domain false w args ∧ laidMetH Tryz.prog Rows.personLinesRow.laid w) ∧ sizedMet enc Tryz.prog Tryz.f3 (OpenSpec.ofChange Rows.personLinesSpec) false w args) (Rows.personLinesSpec.post enc Tryz.prog Tryz.f3 false true false false) := by
  refine handed_laid_shaped (C := Tryz.checked) (X := fun w _ => laidMetH Tryz.prog Rows.personLinesRow.laid w) (fun _ _ _ hh h => h.of_heap hh) own started (by kernel_rfl) Tryz.func3
    (ChangeSpec.witness_shaped (enc := enc) (C := Tryz.checked) (os := os) (X := fun w _ => laidMetH Tryz.prog Rows.personLinesRow.laid w) false (World.laidAll Tryz.prog os Rows.personLinesRow.laid) #[.agg #[.int .i64 0, .string ByteArray.empty, .string ByteArray.empty, .string ByteArray.empty, .string ByteArray.empty, .string ByteArray.empty, .bool false, .bool false, .int .i64 0, .int .i64 0], .agg #[.int .i64 0, .bool false, .bool false], .slice none 0 0, .int .i64 0] 8 (World.laidAll_os _ _ _)
      (World.shaped_of_ZipB (by kernel_rfl) (by kernel_rfl)) (by kernel_rfl) (by kernel_rfl) (by kernel_rfl)
      (by rw [MakeChecks.laidMetH_plain _ _ _ (by kernel_rfl)]; exact laidMet_laidAll _ (by kernel_rfl) (by kernel_rfl))) ?_
  intro W base args ds gs before hval0 hW hcnd _ hL hsh _
  have hval : ∀ (j : Nat) t v, Tryz.f3.params[j]? = some t → args[j]? = some v → Value.okWide Tryz.prog W .any base t v := hval0
  have hW' := hW
  obtain ⟨p, q, hA0, hV, rfl, hfz, hnd⟩ := hW
  have hA : DataW.TrodAll enc Tryz.prog W 0 (fun _ => true) true Tryz.f3.params.toList args.toList ds p := hA0
  rw [Tryz.params3] at hA hval
  obtain ⟨v0, vs0, d0, ds0, p0, q0, hargs, rfl, rfl, h0, rx0⟩ := trodAll_cons hA
  obtain ⟨v1, vs1, d1, ds1, p1, q1, rfl, rfl, rfl, h1, rx1⟩ := trodAll_cons rx0
  obtain ⟨v2, vs2, d2, ds2, p2, q2, rfl, rfl, rfl, h2, rx2⟩ := trodAll_cons rx1
  obtain ⟨v3, vs3, d3, ds3, p3, q3, rfl, rfl, rfl, h3, rx3⟩ := trodAll_cons rx2
  obtain ⟨rfl, rfl, rfl⟩ := trodAll_nil rx3
  obtain rfl : args = #[v0, v1, v2, v3] := by cases args; simp_all
  obtain ⟨rfl, rfl⟩ := trodVars_none hV
  obtain ⟨p0a, p0b, p0c, p0d, p0e, p0f, p0g, p0h, p0i, p0j, rfl, w0, y0a, y0b, y0c, y0d, y0e⟩ := open_perw (hval 0 23 v0 rfl rfl) h0
  obtain ⟨p1a, p1b, p1c, rfl⟩ := open_memb (hval 1 25 v1 rfl rfl) h1
  obtain ⟨A2, l2, c2, rfl, k2, m2, z2, r2⟩ := open_texts Tryz.underlying26 Tryz.underlying9 (by kernel_rfl) (hval 2 26 v2 rfl rfl) h2
  obtain ⟨a3, rfl, rfl, rfl, w3⟩ := open_int Tryz.underlying3 (hval 3 3 v3 rfl rfl) h3
  have hR : LdP W := ⟨shaped_max hsh, pow_of14 hL⟩
  clear hval0
  have hlt := fun (x : MemPlace) hx => hW'.lt x hx
  refine (personLines_walk p0a p0b p0c p0d p0e p0f p0g p0h p0i p0j p1a p1b p1c A2 l2 c2 a3 W w0 (Nat.le_trans k2 m2) r2 hR).mono fun e W' ⟨he, hg⟩ => ?_
  subst he
  refine ⟨_, rfl, post_below (pa := _) (pv := []) hW' (fun _ _ _ => (trodAll_cons_mk (shut_bool Tryz.underlying4 _) trodAll_mk0)) (fun sp hsp => stays_all laidOut hg _ _ _ _ readable hA0 (fun x hx => hlt x (by first | (simp at hx; done) | simpa using hx)) (fun x hx => hsp x (by first | (simp at hx; done) | simpa using hx))) (fun _ _ => rfl) (by simp) hg (ok_one (by kernel_rfl) rfl (okWide_bool_mk Tryz.underlying4 _))⟩

theorem over : Rows.personLinesRow.holds Tryz.pinned (OpenSpec.ofChange Rows.personLinesSpec) :=
  OpenClaim.holds_of_wide 3 Tryz.f3 rfl rfl rfl rfl rfl rfl rfl ⟨rfl, rfl, rfl, rfl, rfl⟩ rfl rfl rfl rfl rfl (by kernel_rfl) Tryz.func3 (by kernel_rfl)
    (of_decide_eq_true (by kernel_rfl)) (by unfold Func.isWrapper; first | (rw [if_pos (by decide +kernel)]; kernel_rfl) | (rw [if_neg (by decide +kernel)]; exact ⟨rfl, rfl⟩))
    (fun os started H enc _ => lifted os started H enc)

theorem card : Rows.PersonLinesCardSaid :=
  Claim7.holds_tied_plain_at .later [] [.data, .data, .data, .data, .pinned] true (true, "3b5d63f186509167650615e9cfb29ad9d6f5d0a5b1f81fd615282e17a3dcd001") false over (fun _ h => by cases h) (by kernel_rfl) (fun _ h => by cases h) personLines_row_tie rfl ⟨rfl, rfl⟩ (by kernel_rfl) rfl
    (fun f fn hf hfn => by
      obtain rfl : f = 3 := Option.some.inj ((show Tryz.prog.funcNamed "rollcall/rollcalllaw22.PersonLines" = some 3 by kernel_rfl).symm.trans hf) |>.symm
      obtain rfl : fn = Tryz.f3 := (Option.some.inj (Tryz.func3.symm.trans hfn)).symm
      exact ⟨by kernel_rfl, fun j t ht => by
        rw [Tryz.params3] at ht
        have hm : t ∈ [23, 25, 26, 3] := by simpa using Array.mem_of_getElem? ht
        have hall : ([23, 25, 26, 3].all fun u => !Tryz.prog.wantsStandIn u) = true := by kernel_rfl
        exact (show Tryz.prog.wantsStandIn t = false by simpa using List.all_eq_true.1 hall t hm)⟩)
    (by kernel_rfl)
theorem proved : Rows.PersonLinesCardSaid :=
  card
#print axioms proved
end Go.Proofs.YtkbgpajconhgjaaGreatDoor.personLines
