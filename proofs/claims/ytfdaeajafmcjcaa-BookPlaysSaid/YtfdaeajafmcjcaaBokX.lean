/- Layer 2: BookPlays: what both books do, in one. -/
import Derived.Test.YtfdaeajafmcjcaaBokU
import Derived.Test.YtfdaeajafmcjcaaBokV
namespace Go.Proofs.Ytfdaeajafmcjcaa
set_option linter.unusedVariables false
set_option linter.unusedSimpArgs false
open Go Go.RowKit Go.Maps Go.Sort Go.Shelf Go.Lib

/-- New of a number that may not be -/
theorem bok_new_out {most : Int} (hm : most < 0 ∨ 100000 < most) (w : World) : Calls Try.prog 9 #[.int .i64 most] w fun e w' => e = .returned (.tuple #[.pointer none, .int .i64 2]) ∧ w' = w := by
  by_cases h1 : most < 0
  · have p1 : decide (most < 0) = true := by simp; omega
    clear hm
    go_enter Try.func9, Try.ntmps9
    go_wp2_with fail
    go_ret2
    exact ⟨rfl, rfl⟩
  · have p1 : decide (most < 0) = false := by simp; omega
    have h2 : 100000 < most := by omega
    have p2 : decide (100000 < most) = true := by simp; omega
    clear hm
    go_enter Try.func9, Try.ntmps9
    go_wp2_with fail
    go_ret2
    exact ⟨rfl, rfl⟩
theorem bput_room {base : Nat} {w : World} {t b : Nat} {most : Int} {T : List (KeyB × Ent VI)} (h : BokI base w t b most T) {name : ByteArray} {v : VI} (hs : name.size ≤ 1000000) (hv : OkVI v) (hl : T.length ≤ 1000000) {k : KeyB} (hk : foldL name.data.toList = k) (hr : (lookM T k).isSome = true ∨ (T.length : Int) < most) :
    Calls Try.prog 12 #[.pointer (some ⟨t, 0, none⟩), .string name, thVI v] w fun e w' => e = .returned (.int .i64 0) ∧ BokI base w' t b most (setM T k ⟨name, k, v⟩) ∧ Fr (fun j => j = b) w w' := by
  subst hk
  refine (bok_putI h hs hv hl).mono ?_
  rintro e w' ⟨h1 | h1, h2⟩
  · exact ⟨h1.2.1, h1.2.2, h2⟩
  · exfalso
    rcases hr with hr | hr
    · rw [hr] at h1; exact absurd h1.1.1 (by decide)
    · exact h1.1.2 hr
theorem bput_full {base : Nat} {w : World} {t b : Nat} {most : Int} {T : List (KeyB × Ent VI)} (h : BokI base w t b most T) {name : ByteArray} {v : VI} (hs : name.size ≤ 1000000) (hv : OkVI v) (hl : T.length ≤ 1000000) {k : KeyB} (hk : foldL name.data.toList = k) (hr : ¬ ((lookM T k).isSome = true ∨ (T.length : Int) < most)) :
    Calls Try.prog 12 #[.pointer (some ⟨t, 0, none⟩), .string name, thVI v] w fun e w' => e = .returned (.int .i64 7) ∧ BokI base w' t b most T ∧ Fr (fun j => j = b) w w' := by
  subst hk
  refine (bok_putI h hs hv hl).mono ?_
  rintro e w' ⟨h1 | h1, h2⟩
  · exact absurd h1.1 hr
  · exact ⟨h1.2.1, h1.2.2, h2⟩
theorem okUB_app {U : List (Ent VI)} (h : OkUB U) {e : Ent VI} (he : e.fold = foldL e.name.data.toList ∧ e.name.size ≤ 1000000) : OkUB (U ++ [e]) := fun x hx => by
  rw [List.mem_append, List.mem_singleton] at hx
  rcases hx with hx | rfl
  · exact h x hx
  · exact he
theorem okUB_set {U : List (Ent VI)} (h : OkUB U) {e : Ent VI} (he : e.fold = foldL e.name.data.toList ∧ e.name.size ≤ 1000000) (i : Nat) : OkUB (U.set i e) := fun x hx => by
  rcases List.mem_or_eq_of_mem_set hx with hx | rfl
  · exact h x hx
  · exact he
theorem okUB_del {U : List (Ent VI)} (h : OkUB U) (i : Nat) : OkUB (U.take i ++ U.drop (i + 1)) := fun x hx => by
  rw [List.mem_append] at hx
  rcases hx with hx | hx
  · exact h x (List.mem_of_mem_take hx)
  · exact h x (List.mem_of_mem_drop hx)
/-- what the document's book is afterwards -/
def NewU (B x : Nat) (most : Int) (T1 : List (KeyB × Ent VI)) (n : Nat) (W : World) : Prop := ∃ U1, RefB B W x most U1 ∧ TwoU T1 U1 ∧ OkUB U1 ∧ U1.length ≤ n
theorem docput_room {B : Nat} {w : World} {x : Nat} {most : Int} {T : List (KeyB × Ent VI)} {U : List (Ent VI)} (h : RefB B w x most U) (hb : B ≤ w.heap.size) (two : TwoU T U) (ok : OkUB U) (hl : U.length ≤ 1000000) {name : ByteArray} (hs : name.size ≤ 1000000) {v : Int} {k : KeyB} (hk : foldL name.data.toList = k) (hr : (lookM T k).isSome = true ∨ (T.length : Int) < most) :
    Calls Try.prog 13 #[.pointer (some ⟨x, 0, none⟩), .string name, .int .i64 v] w fun e w' => e = .returned (.int .i64 0) ∧ NewU B x most (setM T k ⟨name, k, v⟩) (U.length + 1) w' ∧ Fr (fun j => B ≤ j) w w' := by
  subst hk
  refine (ref_put h hb ok hl hs v).mono ?_
  rintro e w' ⟨h1, h2⟩
  rcases h1 with ⟨i, hi, e1, e2, e3⟩ | ⟨e1, e2, e3, e4⟩ | ⟨e1, e2, e3, e4⟩
  · exact ⟨e2, ⟨_, e3, two.anew (e := ⟨name, foldL name.data.toList, v⟩) rfl hi e1, okUB_set ok ⟨rfl, hs⟩ i, by rw [List.length_set]; omega⟩, h2⟩
  · exfalso
    have := two.len
    rcases hr with hr | hr
    · rw [(two.none e1).1] at hr; exact absurd hr (by decide)
    · omega
  · exact ⟨e3, ⟨_, e4, two.put (e := ⟨name, foldL name.data.toList, v⟩) rfl e1, okUB_app ok ⟨rfl, hs⟩, by rw [List.length_append]; exact Nat.le_refl _⟩, h2⟩
theorem docput_full {B : Nat} {w : World} {x : Nat} {most : Int} {T : List (KeyB × Ent VI)} {U : List (Ent VI)} (h : RefB B w x most U) (hb : B ≤ w.heap.size) (two : TwoU T U) (ok : OkUB U) (hl : U.length ≤ 1000000) {name : ByteArray} (hs : name.size ≤ 1000000) {v : Int} {k : KeyB} (hk : foldL name.data.toList = k) (hr : ¬ ((lookM T k).isSome = true ∨ (T.length : Int) < most)) :
    Calls Try.prog 13 #[.pointer (some ⟨x, 0, none⟩), .string name, .int .i64 v] w fun e w' => e = .returned (.int .i64 7) ∧ NewU B x most T (U.length + 1) w' ∧ Fr (fun j => B ≤ j) w w' := by
  subst hk
  refine (ref_put h hb ok hl hs v).mono ?_
  rintro e w' ⟨h1, h2⟩
  have hlen := two.len
  rcases h1 with ⟨i, hi, e1, e2, e3⟩ | ⟨e1, e2, e3, e4⟩ | ⟨e1, e2, e3, e4⟩
  · exact absurd (.inl (by rw [two.some hi e1]; rfl)) hr
  · exact ⟨e3, ⟨_, e4, two, ok, by omega⟩, h2⟩
  · exact absurd (.inr (by omega)) hr
theorem del_one {base : Nat} {w : World} {t b : Nat} {most : Int} {T : List (KeyB × Ent VI)} (h : BokI base w t b most T) {name : ByteArray} (hs : name.size ≤ 1000000) {k : KeyB} (hk : foldL name.data.toList = k) {d : Bool} (hd : (lookM T k).isSome = d) :
    Calls Try.prog 10 #[.pointer (some ⟨t, 0, none⟩), .string name] w fun e w' => e = .returned (.bool d) ∧ BokI base w' t b most (delM T k) ∧ Fr (fun j => j = b) w w' := by
  subst hk
  subst hd
  exact bok_delI h hs
theorem docdel_one {B : Nat} {w : World} {x : Nat} {most : Int} {T : List (KeyB × Ent VI)} {U : List (Ent VI)} (h : RefB B w x most U) (hb : B ≤ w.heap.size) (two : TwoU T U) (ok : OkUB U) (hl : U.length ≤ 1000000) {name : ByteArray} (hs : name.size ≤ 1000000) {k : KeyB} (hk : foldL name.data.toList = k) {d : Bool} (hd : (lookM T k).isSome = d) :
    Calls Try.prog 11 #[.pointer (some ⟨x, 0, none⟩), .string name] w fun e w' => e = .returned (.bool d) ∧ NewU B x most (delM T k) (U.length + 1) w' ∧ Fr (fun j => B ≤ j) w w' := by
  subst hk
  subst hd
  have hx : B ≤ x := h.1
  refine (ref_del h hb ok hl hs).mono ?_
  rintro e w' ⟨h1, h2⟩
  refine ⟨?_, ?_, h2.mono fun j _ e => by rw [e]; exact hx⟩
  · rcases h1 with ⟨e1, e2, e3⟩ | ⟨i, hi, e1, e2, e3⟩
    · rw [(two.none e2).1, e1]; rfl
    · rw [two.some hi e1, e2]; rfl
  · rcases h1 with ⟨e1, e2, e3⟩ | ⟨i, hi, e1, e2, e3⟩
    · exact ⟨_, e3, by rw [(two.none e2).2]; exact two, ok, by omega⟩
    · exact ⟨_, e3, two.del hi e1, okUB_del ok i, by rw [List.length_append, List.length_take, List.length_drop]; omega⟩
/-- both books at the end of one act -/
theorem PlayB.step {w W W1 W2 : World} {t b B x : Nat} {most : Int} {T T1 : List (KeyB × Ent VI)} {U : List (Ent VI)} {n : Nat} (h : PlayB w t b B x most T U W) (h1 : BokI w.heap.size W1 t b most T1) (hf : Fr (fun j => j = b) W W1) (h2 : NewU B x most T1 n W2) (hg : Fr (fun j => B ≤ j) W1 W2) : ∃ U1, U1.length ≤ n ∧ PlayB w t b B x most T1 U1 W2 := by
  obtain ⟨U1, a1, a2, a3, a4⟩ := h2
  exact ⟨U1, a4, h.both h1 hf a1 hg a2 a3⟩
theorem PlayB.mid {w W W1 : World} {t b B x : Nat} {most : Int} {T : List (KeyB × Ent VI)} {U : List (Ent VI)} (h : PlayB w t b B x most T U W) (hf : Fr (fun j => j = b) W W1) : RefB B W1 x most U ∧ B ≤ W1.heap.size :=
  ⟨refB_fr h.ref hf fun k hk e => by have := h.bB; omega, Nat.le_trans h.Bw hf.size⟩
theorem tale_all {base : Nat} {w : World} {t b : Nat} {most : Int} {T : List (KeyB × Ent VI)} {U : List (Ent VI)} (h : BokI base w t b most T) (two : TwoU T U) (hl : T.length ≤ 1000000) : Calls Try.prog 35 #[.pointer (some ⟨t, 0, none⟩)] w (TaleR (rowU [] U) w) :=
  (all_bookI h hl).mono fun e w' ⟨⟨F, R, h1, h2, h3, h4⟩, h5⟩ => ⟨⟨F, h1, by rw [← two.row h3 h4]; exact h2⟩, h5⟩
theorem tale_from {base : Nat} {w : World} {t b : Nat} {most : Int} {T : List (KeyB × Ent VI)} {U : List (Ent VI)} (h : BokI base w t b most T) (two : TwoU T U) (hl : T.length ≤ 1000000) {name : ByteArray} (hs : name.size ≤ 1000000) : Calls Try.prog 34 #[.pointer (some ⟨t, 0, none⟩), .string name] w (TaleR (rowU (foldL name.data.toList) U) w) :=
  (from_bookI h hl hs).mono fun e w' ⟨⟨F, R, h1, h2, h3, h4⟩, h5⟩ => ⟨⟨F, h1, by rw [← two.row h3 h4]; exact h2⟩, h5⟩
end Go.Proofs.Ytfdaeajafmcjcaa
