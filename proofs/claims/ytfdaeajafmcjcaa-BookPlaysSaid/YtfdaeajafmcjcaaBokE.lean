/- Layer 2: awake; BookNone. -/
import Derived.Test.YtfdaeajafmcjcaaBokD
namespace Go.Proofs.Ytfdaeajafmcjcaa
set_option linter.unusedVariables false
set_option linter.unusedSimpArgs false
open Go Go.RowKit Go.Maps Go.Sort Go.Shelf Go.Lib

abbrev nmA : ByteArray := ⟨#[78, 105, 99, 107, 91]⟩
abbrev nmB : ByteArray := ⟨#[110, 73, 67, 75, 123]⟩
abbrev nmC : ByteArray := ⟨#[78, 73, 67, 75, 91]⟩
def kA : KeyB := foldL nmA.data.toList
theorem kA_B : foldL nmB.data.toList = kA := by kernel_rfl
theorem kA_C : foldL nmC.data.toList = kA := by kernel_rfl
theorem put_room {base t b : Nat} {most : Int} {T : List (KeyB × Ent VI)} {name : ByteArray} {v : VI} {w w' : World} {e : Ending} (h : PutPI base t b most T name v w e w') (hr : (T.length : Int) < most) : e = .returned (.int .i64 0) ∧ BokI base w' t b most (setM T (foldL name.data.toList) ⟨name, foldL name.data.toList, v⟩) ∧ Fr (fun j => j = b) w w' := by
  obtain ⟨h | h, hf⟩ := h
  · exact ⟨h.2.1, h.2.2, hf⟩
  · exact absurd hr h.1.2
set_option maxRecDepth 100000 in
set_option maxHeartbeats 4000000 in
theorem awake02 (w : World) : Calls Try.prog 7 #[] w fun e w' => e = .returned (.bool true) ∧ RowKit.Below w.heap.size w w' := by
  have hn := Lib.hid (bok_newI (most := 2) (by decide) w)
  go_enter Try.func7, Try.ntmps7
  go_wp2_with fail
  refine hn.out.mono ?_
  rintro e w1 ⟨t, b, rfl, h1, b1⟩
  have K1 := Lib.hid (And.intro h1 b1)
  clear h1 b1 hn
  go_wp2_with fail
  refine (bok_putI K1.out.1 (name := nmA) (v := 1) (by decide) (by unfold OkVI; decide) (by decide)).mono ?_
  rintro e w2 hP
  obtain ⟨rfl, h2, f2⟩ := put_room hP (by decide)
  have K2 : Hid (BokI w.heap.size w2 t b 2 [(kA, ⟨nmA, kA, 1⟩)] ∧ RowKit.Below w.heap.size w w2) := ⟨h2, K1.out.2.trans (f2.below K1.out.2.size fun k _ e => by subst e; exact K1.out.1.2.1)⟩
  clear h2 f2 K1 hP
  go_wp2_with fail
  refine (bok_putI K2.out.1 (name := nmB) (v := 2) (by decide) (by unfold OkVI; decide) (by decide)).mono ?_
  rintro e w3 hP
  obtain ⟨rfl, h3, f3⟩ := put_room hP (by decide)
  rw [kA_B, show setM [(kA, (⟨nmA, kA, 1⟩ : Ent VI))] kA ⟨nmB, kA, 2⟩ = [(kA, ⟨nmB, kA, 2⟩)] by simp [setM]] at h3
  have K3 := Lib.hid (And.intro h3 (K2.out.2.trans (f3.below K2.out.2.size fun k _ e => by subst e; exact K2.out.1.2.1)))
  clear h3 f3 K2 hP
  go_wp2_with fail
  have hN := bok_nameI K3.out.1 (name := nmC) (by decide)
  rw [kA_C, show lookM [(kA, (⟨nmB, kA, 2⟩ : Ent VI))] kA = some ⟨nmB, kA, 2⟩ by simp [lookM]] at hN
  refine hN.mono ?_
  rintro e w4 ⟨rfl, b4⟩
  have K4 := Lib.hid (And.intro (bokI_below K3.out.1 b4) (K3.out.2.trans (b4.mono K3.out.2.size)))
  clear b4 K3 hN
  go_wp2_with fail
  refine (bok_lenI K4.out.1).mono ?_
  rintro e w5 ⟨rfl, rfl⟩
  go_wp2_with fail
  go_ret
  exact ⟨rfl, K4.out.2⟩
theorem same_all_nil {name : ByteArray} (hs : name.size ≤ 1000000) (W : World) : Calls Try.prog 18 #[.pointer none, .slice none 0 0, .string name, .bool true] W fun e W' => e = .returned (.bool true) ∧ Fr (fun _ => False) W W' :=
  same02_all (p := none) (R := []) (Rf := []) (fun V _ => from_nilI name hs V) (fun V _ => all_nilI V) (by simp) none 0 (fun h => absurd h (by simp))
theorem same_from_nil {name : ByteArray} (hs : name.size ≤ 1000000) (W : World) : Calls Try.prog 18 #[.pointer none, .slice none 0 0, .string name, .bool false] W fun e W' => e = .returned (.bool true) ∧ Fr (fun _ => False) W W' :=
  same02_from (p := none) (R := []) (fun V _ => from_nilI name hs V) (by simp) none 0 (fun h => absurd h (by simp))
set_option maxRecDepth 100000 in
set_option maxHeartbeats 8000000 in
theorem bookNone_walk (name : ByteArray) (n : Int) (w : World) : Calls Try.prog 5 #[.string name, .int .i64 n] w fun e w' => e = .returned (.bool true) ∧ RowKit.Below w.heap.size w w' := by
  have hput := Lib.hid (fun V => bok_put_nilI name n V)
  unfold thVI at hput
  go_enter Try.func5, Try.ntmps5
  go_wp2_with fail
  refine (awake02 w).mono ?_
  rintro e w1 ⟨rfl, b1⟩
  have B1 := Lib.hid b1
  clear b1
  by_cases h30 : (30 : Int) < (name.size : Int)
  · have q1 : decide ((30 : Int) < (name.size : Int)) = true := by simp [h30]
    go_wp2_with fail
    go_ret
    exact ⟨rfl, B1.out⟩
  · have q1 : decide ((30 : Int) < (name.size : Int)) = false := by simp [h30]
    have hs := Lib.hid (show name.size ≤ 1000000 by omega)
    go_wp2_with fail
    refine (bok_get_nilI name _).mono ?_
    rintro e w2 ⟨rfl, b2⟩
    have B2 := Lib.hid (B1.out.trans (b2.mono B1.out.size))
    clear b2 B1
    unfold thVI zeroEI
    go_wp2_with fail
    refine (bok_name_nilI name _).mono ?_
    rintro e w3 ⟨rfl, b3⟩
    have B3 := Lib.hid (B2.out.trans (b3.mono B2.out.size))
    clear b3 B2
    go_wp2_with fail
    refine (hput.out _).mono ?_
    rintro e w4 ⟨rfl, rfl⟩
    go_wp2_with fail
    refine (bok_del_nilI name _).mono ?_
    rintro e w5 ⟨rfl, b5⟩
    have B5 := Lib.hid (B3.out.trans (b5.mono B3.out.size))
    clear b5 B3
    go_wp2_with fail
    refine (bok_len_nilI _).mono ?_
    rintro e w6 ⟨rfl, rfl⟩
    go_wp2_with fail
    refine (same_all_nil hs.out _).mono ?_
    rintro e w7 ⟨rfl, f7⟩
    have B7 := Lib.hid (B5.out.trans (f7.below B5.out.size fun _ _ e => e.elim))
    clear f7 B5
    go_wp2_with fail
    refine (same_from_nil hs.out _).mono ?_
    rintro e w8 ⟨rfl, f8⟩
    have B8 := Lib.hid (B7.out.trans (f8.below B7.out.size fun _ _ e => e.elim))
    clear f8 B7
    go_wp2_with fail
    go_ret
    exact ⟨rfl, B8.out⟩
end Go.Proofs.Ytfdaeajafmcjcaa
