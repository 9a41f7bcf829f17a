/- Layer 2: All and From, of a book of string. -/
import Derived.Test.YtfdaeajafmcjcaaBokJS

namespace Go.Proofs.Ytfdaeajafmcjcaa
set_option linter.unusedVariables false
set_option linter.unusedSimpArgs false
open Go Go.RowKit Go.Maps Go.Sort Go.Shelf Go.Lib

/-- a tale of the entries from a folded name on -/
def TalesPS (T : List (KeyB × Ent VS)) (fr : KeyB) (w : World) (e : Ending) (w' : World) : Prop := (∃ F R, e = .returned F ∧ TaleES w.heap.size w' F R ∧ (R.Pairwise fun x y => x.fold < y.fold) ∧ R.Perm (wantES fr T)) ∧ Fr (fun _ => False) w w'
theorem told_ownS {base : Nat} {w : World} {v : Value} {R : List (Ent VS)} (h : OwnES base w v R) (hb : base ≤ w.heap.size) : Calls Try.prog 36 #[v] w fun e w' => (∃ F, e = .returned F ∧ TaleES base w' F R) ∧ Fr (fun _ => False) w w' := by
  obtain ⟨A, c, rfl⟩ := row_slice h
  exact told_ofS h hb
set_option maxHeartbeats 1000000 in
theorem all_bookS {base : Nat} {w : World} {t b : Nat} {most : Int} {T : List (KeyB × Ent VS)} (h : BokS base w t b most T) (hl : T.length ≤ 1000000) :
    Calls Try.prog 23 #[.pointer (some ⟨t, 0, none⟩)] w (TalesPS T [] w) := by
  have HS : Hid (Calls Try.prog 37 #[.pointer (some ⟨t, 0, none⟩), .string ⟨#[]⟩] w (SortedPS T [] w)) := sorted_bookS h [] hl
  clear h
  go_enter Try.func23, Try.ntmps23
  go_wp2_with fail
  refine HS.out.mono ?_
  rintro e w1 ⟨⟨v, R, rfl, o1, hR1, hR2⟩, f1⟩
  have HT := Lib.hid (told_ownS o1 f1.size)
  have HQ := Lib.hid (And.intro hR1 (And.intro hR2 f1))
  clear o1 hR1 hR2 f1 HS
  go_wp2_with fail
  refine HT.out.mono ?_
  rintro e w2 ⟨⟨F, rfl, hT⟩, f2⟩
  have H2 := Lib.hid (And.intro hT f2)
  clear hT f2 HT
  go_wp2_with fail
  go_ret
  exact ⟨⟨F, R, rfl, H2.out.1, HQ.out.1, HQ.out.2.1⟩, HQ.out.2.2.trans H2.out.2⟩

end Go.Proofs.Ytfdaeajafmcjcaa
