/- Layer 2: All and From, of a book of int. -/
import Derived.Test.YtfdaeajafmcjcaaBokJI
import Derived.Test.YtfdaeajafmcjcaaBokD
namespace Go.Proofs.Ytfdaeajafmcjcaa
set_option linter.unusedVariables false
set_option linter.unusedSimpArgs false
open Go Go.RowKit Go.Maps Go.Sort Go.Shelf Go.Lib

/-- a tale of the entries from a folded name on -/
def TalesPI (T : List (KeyB × Ent VI)) (fr : KeyB) (w : World) (e : Ending) (w' : World) : Prop := (∃ F R, e = .returned F ∧ TaleEI w.heap.size w' F R ∧ (R.Pairwise fun x y => x.fold < y.fold) ∧ R.Perm (wantEI fr T)) ∧ Fr (fun _ => False) w w'
theorem told_ownI {base : Nat} {w : World} {v : Value} {R : List (Ent VI)} (h : OwnEI base w v R) (hb : base ≤ w.heap.size) : Calls Try.prog 43 #[v] w fun e w' => (∃ F, e = .returned F ∧ TaleEI base w' F R) ∧ Fr (fun _ => False) w w' := by
  obtain ⟨A, c, rfl⟩ := row_slice h
  exact told_ofI h hb
set_option maxHeartbeats 1000000 in
theorem all_bookI {base : Nat} {w : World} {t b : Nat} {most : Int} {T : List (KeyB × Ent VI)} (h : BokI base w t b most T) (hl : T.length ≤ 1000000) :
    Calls Try.prog 35 #[.pointer (some ⟨t, 0, none⟩)] w (TalesPI T [] w) := by
  have HS : Hid (Calls Try.prog 44 #[.pointer (some ⟨t, 0, none⟩), .string ⟨#[]⟩] w (SortedPI T [] w)) := sorted_bookI h [] hl
  clear h
  go_enter Try.func35, Try.ntmps35
  go_wp2_with fail
  refine HS.out.mono ?_
  rintro e w1 ⟨⟨v, R, rfl, o1, hR1, hR2⟩, f1⟩
  have HT := Lib.hid (told_ownI o1 f1.size)
  have HQ := Lib.hid (And.intro hR1 (And.intro hR2 f1))
  clear o1 hR1 hR2 f1 HS
  go_wp2_with fail
  refine HT.out.mono ?_
  rintro e w2 ⟨⟨F, rfl, hT⟩, f2⟩
  have H2 := Lib.hid (And.intro hT f2)
  clear hT f2 HT
  go_wp2_with fail
  go_ret
  exact ⟨⟨F, R, rfl, H2.out.1, HQ.out.1, HQ.out.2.1⟩, HQ.out.2.2.trans H2.out.2⟩
set_option maxHeartbeats 1000000 in
theorem from_bookI {base : Nat} {w : World} {t b : Nat} {most : Int} {T : List (KeyB × Ent VI)} (h : BokI base w t b most T) (hl : T.length ≤ 1000000) {name : ByteArray} (hs : name.size ≤ 1000000) :
    Calls Try.prog 34 #[.pointer (some ⟨t, 0, none⟩), .string name] w (TalesPI T (foldL name.data.toList) w) := by
  have HT0 := Lib.hid (text_any name w hs)
  have HB := Lib.hid h
  clear h
  go_enter Try.func34, Try.ntmps34
  go_wp2_with fail
  refine HT0.out.mono ?_
  rintro e w0 ⟨rfl, b0⟩
  have HS := Lib.hid (sorted_bookI (bokI_below HB.out b0) (foldL name.data.toList) hl)
  have F0 := Lib.hid (Fr.of_below (X := fun _ => False) b0)
  clear b0 HT0
  go_wp2_with fail
  refine HS.out.mono ?_
  rintro e w1 ⟨⟨v, R, rfl, o1, hR1, hR2⟩, f1⟩
  have HT := Lib.hid (told_ownI (ownEI_base o1 F0.out.size) (F0.out.trans f1).size)
  have HQ := Lib.hid (And.intro hR1 (And.intro hR2 (F0.out.trans f1)))
  clear o1 hR1 hR2 f1 HS
  go_wp2_with fail
  refine HT.out.mono ?_
  rintro e w2 ⟨⟨F, rfl, hT⟩, f2⟩
  have H2 := Lib.hid (And.intro hT f2)
  clear hT f2 HT
  go_wp2_with fail
  go_ret
  exact ⟨⟨F, R, rfl, H2.out.1, HQ.out.1, HQ.out.2.1⟩, HQ.out.2.2.trans H2.out.2⟩
end Go.Proofs.Ytfdaeajafmcjcaa
