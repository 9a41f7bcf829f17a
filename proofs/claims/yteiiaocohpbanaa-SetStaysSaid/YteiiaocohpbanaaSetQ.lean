/- Layer 10: SetStays. -/
import Derived.Test.YteiiaocohpbanaaSetP
import Derived.Test.YteiiaocohpbanaaDecW
namespace Go.Proofs.Yteiiaocohpbanaa
set_option linter.unusedVariables false
set_option linter.unusedSimpArgs false
open Go Go.RowKit Go.Lib Go.Sort Go.Shelf

/-- a tale whose blocks lie between two numbers -/
def TaleIn (lo hi : Nat) (w : World) (F : Value) (xs : List Int) : Prop := hi ≤ w.heap.size ∧ ∃ B v, lo ≤ B ∧ B < hi ∧ F = .func (.func 33) #[] #[.pointer (some ⟨B, 0, none⟩)] ∧ w.heap[B]? = some (.cells #[v] 26 (0, 0)) ∧ v.ownBlock ≠ some B ∧ OwnI lo w v xs ∧ ∀ g, v.ownBlock = some g → g < hi
theorem talein_of {base : Nat} {w : World} {F : Value} {xs : List Int} (h : TaleAt base w F xs) : TaleIn base w.heap.size w F xs := by
  obtain ⟨B, v, h0, h1, h2, h3, h4⟩ := h
  exact ⟨Nat.le_refl _, B, v, h0, blk_lt h2, h1, h2, h3, h4, fun g hg => (h4.lt g hg).2⟩
theorem talein_fr {lo hi : Nat} {X : Nat → Prop} {w w' : World} {F : Value} {xs : List Int} (h : TaleIn lo hi w F xs) (hf : Fr X w w') (hX : ∀ k, lo ≤ k → k < hi → ¬ X k) : TaleIn lo hi w' F xs := by
  obtain ⟨z, B, v, h0, h1, h2, h3, h4, h5, h6⟩ := h
  exact ⟨Nat.le_trans z hf.size, B, v, h0, h1, h2, hf.blk h3 (hX B h0 h1), h4, own_kept h5 fun g hg => hf.block g (h5.lt g hg).2 (hX g (h5.lt g hg).1 (h6 g hg)), h6⟩
theorem talein_tale {lo hi : Nat} {w : World} {F : Value} {xs : List Int} (h : TaleIn lo hi w F xs) : TaleAt lo w F xs := by
  obtain ⟨z, B, v, h0, h1, h2, h3, h4, h5, h6⟩ := h
  exact ⟨B, v, h0, h2, h3, h4, h5⟩
/-- a set's blocks -/
theorem set_blocks {base : Nat} {w : World} {s : Nat} {ob : Option Nat} {xs : List Int} (h : SetAt base w s ob xs) : ∀ k, ob = some k → base ≤ k ∧ k < w.heap.size := by
  obtain ⟨⟨v, _, rfl, b⟩, _, _⟩ := h
  exact fun k hk => b.lt k hk
theorem set_fr {base : Nat} {X : Nat → Prop} {w w' : World} {s : Nat} {ob : Option Nat} {xs : List Int} (h : SetAt base w s ob xs) (hf : Fr X w w') (hs : ¬ X s) (ho : ∀ k, ob = some k → ¬ X k) : SetAt base w' s ob xs := by
  have hb := set_blocks h
  refine set_kept h ?_ fun g hg => hf.block g (hb g hg).2 (ho g hg)
  obtain ⟨⟨v, a, _⟩, _⟩ := h
  exact hf.block s (blk_lt a) hs
theorem rd10 {w W : World} {C : Option Addr} {ls : List Int} (hr : ReadsI w C ls) (hb : RowKit.Below w.heap.size w W) (s : Nat) (o2 : Option Nat) (h1 : w.heap.size ≤ s) (h2 : ∀ k, o2 = some k → w.heap.size ≤ k) : 0 < ls.length → ∃ g o, C = some ⟨g, o, none⟩ ∧ g < W.heap.size ∧ g ≠ s ∧ o2 ≠ some g ∧ ∀ j (h : j < ls.length), W.cell? ⟨g, o + j, none⟩ = some (.int .i64 ls[j]) := fun h0 => by
  obtain ⟨g, o, e1, e2, e3⟩ := hr h0
  exact ⟨g, o, e1, Nat.lt_of_lt_of_le e2 hb.size, by omega, fun e => by have := h2 g e; omega, fun j hj => (World.cell?_of_block (w := w) (w' := W) (a := ⟨g, o + j, none⟩) (hb.block g e2)).trans (e3 j hj)⟩
theorem meet_none {w : World} {p : Option Addr} {xs : List Int} (h : PtrAt w (.pointer p) xs) (hl : xs.length ≤ 1000000) : Calls Try.prog 22 #[.pointer none, .pointer p] w (MeetP false w) :=
  set_meet (xs := []) (.inl ⟨rfl, rfl⟩) h (by simp) hl
theorem meet_none2 {w : World} {p : Option Addr} {xs : List Int} (h : PtrAt w (.pointer p) xs) (hl : xs.length ≤ 1000000) : Calls Try.prog 22 #[.pointer p, .pointer none] w (MeetP false w) := by
  have h1 := set_meet (ys := []) h (.inl ⟨rfl, rfl⟩) hl (by simp)
  rwa [meetI_comm] at h1
theorem stays_len {la lb : List Int} : (normI ([normI la, [], normI lb].flatten)).length = (insAll (normI la) lb).length := by
  congr 1
  refine up_ext (normI_ok _).1 (insAll_up (normI_ok la).1 lb) fun x => ?_
  rw [(normI_ok _).2, insAll_mem]
  simp [(normI_ok la).2, (normI_ok lb).2]
theorem stays_none (lb : List Int) : delAll (normI lb) lb = [] := delAll_nil (normI_ok lb).1 fun x hx => ((normI_ok lb).2 x).1 hx
set_option maxRecDepth 100000 in
set_option maxHeartbeats 8000000 in
theorem setStays_main (A B : Option Addr) (la lb : List Int) (ca cb : Nat) (w : World) (hla : la.length ≤ 30) (hlb : lb.length ≤ 30) (hA : ReadsI w A la) (hB : ReadsI w B lb) :
    Calls Try.prog 5 #[.slice A la.length ca, .slice B lb.length cb] w fun e w' => e = .returned (.bool true) ∧ Below w.heap.size w w' := by
  have HA := Lib.hid hA
  have HB := Lib.hid hB
  clear hA hB
  have n1 := normI_len la
  have n2 := normI_len lb
  go_enter Try.func5, Try.ntmps5
  go_wp2_with fail
  refine (awake10 w).mono ?_
  rintro e w1 ⟨rfl, b1⟩
  have B1 := Lib.hid b1
  have z1 := b1.size
  clear b1
  go_wp2_with fail
  refine (set_of' A la la.length ca rfl (by omega) (HA.out.below B1.out) _ rfl).mono ?_
  rintro e w2 ⟨⟨s, ob, rfl, s1, s2⟩, b2⟩
  have S := Lib.hid s1
  have B2 := Lib.hid b2
  have z2 := b2.size
  have z2s : s < w2.heap.size := by obtain ⟨⟨v, a, _⟩, _⟩ := s1; exact blk_lt a
  clear s1 b2
  go_wp2_with fail
  refine (set_of' B lb lb.length cb rfl (by omega) ((HB.out.below B1.out).below B2.out) _ rfl).mono ?_
  rintro e w3 ⟨⟨t, obt, rfl, t1, t2⟩, b3⟩
  have T := Lib.hid t1
  have B3 := Lib.hid b3
  have z3 := b3.size
  have z3t : t < w3.heap.size := by obtain ⟨⟨v, a, _⟩, _⟩ := t1; exact blk_lt a
  clear t1 b3
  go_wp2_with fail
  refine (set_all (set_below S.out B3.out) (by omega)).mono ?_
  rintro e w4 ⟨⟨F1, rfl, f1⟩, b4⟩
  have F1H := Lib.hid (talein_of f1)
  have B4 := Lib.hid b4
  have z4 := b4.size
  clear f1 b4
  obtain ⟨W5, hW5⟩ : ∃ W5, w4.alloc (.cells #[.pointer (some ⟨s, 0, none⟩), .pointer none, .pointer (some ⟨t, 0, none⟩)] 24) = W5 := ⟨_, rfl⟩
  have b5 : Below w4.heap.size w4 W5 := by rw [← hW5]; exact (Below.refl _ _).alloc (Nat.le_refl _) _
  have z5 : W5.heap.size = w4.heap.size + 1 := by rw [← hW5, World.size_alloc]
  have k5 : W5.heap[w4.heap.size]? = some (.cells #[.pointer (some ⟨s, 0, none⟩), .pointer none, .pointer (some ⟨t, 0, none⟩)] 24 (0, 0)) := by rw [← hW5]; exact heap_alloc_new _ _
  have S5 : SetAt w1.heap.size W5 s ob (normI la) := set_below (set_below (set_below S.out B3.out) B4.out) b5
  have T5 : SetAt w2.heap.size W5 t obt (normI lb) := set_below (set_below T.out B4.out) b5
  have hU := union' (w := W5) (some ⟨w4.heap.size, 0, none⟩) [normI la, [], normI lb] 3 3 rfl (by simp) (by simp; omega) (fun _ => ⟨_, _, rfl, by omega, fun j hj => by
    rw [Nat.zero_add, blk_cell k5 j]
    match j, hj with
    | 0, _ => exact ⟨_, rfl, .inr ⟨_, _, _, rfl, S5⟩⟩
    | 1, _ => exact ⟨_, rfl, .inl ⟨rfl, rfl⟩⟩
    | 2, _ => exact ⟨_, rfl, .inr ⟨_, _, _, rfl, T5⟩⟩⟩) _ rfl
  have HU := Lib.hid hU
  have HW5 := Lib.hid hW5
  have H5 := Lib.hid (And.intro S5 (And.intro T5 b5))
  clear hU hW5 S5 T5 b5 k5
  go_wp2_with fail
  rw [HW5.out]
  refine HU.out.mono ?_
  rintro e w6o ⟨⟨F2, rfl, f2⟩, b6⟩
  have F2H := Lib.hid (talein_of f2)
  have B6 := Lib.hid b6
  have z6 := b6.size
  have S6 := Lib.hid (set_below H5.out.1 b6)
  have T6 := Lib.hid (set_below H5.out.2.1 b6)
  clear f2 b6
  go_wp2_with fail
  refine (set_len S6.out).mono ?_
  rintro e w6 ⟨rfl, rfl⟩
  have hob := set_blocks S.out
  have hobt := set_blocks T.out
  have bw1 := B1.out
  have bw6 : RowKit.Below w.heap.size w w6 := bw1.trans ((B2.out.mono z1).trans ((B3.out.mono (by omega)).trans ((B4.out.mono (by omega)).trans ((H5.out.2.2.mono (by omega)).trans (B6.out.mono (by omega))))))
  have F16 : TaleIn w3.heap.size w4.heap.size w6 F1 (normI la) := talein_fr (talein_fr F1H.out (Fr.of_below (X := fun _ => False) H5.out.2.2) (fun _ _ _ h => h)) (Fr.of_below (X := fun _ => False) B6.out) (fun _ _ _ h => h)
  have hadd := set_add S6.out (by omega) B lb cb (by omega) (rd10 HB.out bw6 s ob (by omega) fun k hk => by have := (hob k hk).1; omega)
  have HAdd := Lib.hid hadd
  have G6 := Lib.hid (And.intro hob (And.intro hobt (And.intro bw6 F16)))
  clear hadd bw6 bw1 hob hobt F16
  go_wp2_with fail
  refine HAdd.out.mono ?_
  rintro e w7o ⟨rfl, ob7, s7, o7, f7⟩
  obtain ⟨hob, hobt, bw6, F16⟩ := G6.out
  have z7 := f7.size
  have bw7 : RowKit.Below w.heap.size w w7o := bw6.trans (f7.below (by omega) fun k _ e => by rcases e with rfl | e; omega; have := (hob k e).1; omega)
  have F17 := talein_fr F16 f7 (fun k h1 h2 e => by rcases e with rfl | e; omega; have := (hob k e).2; omega)
  have F27 := talein_fr F2H.out f7 (fun k h1 h2 e => by rcases e with rfl | e; omega; have := (hob k e).2; omega)
  have T7 := set_fr T6.out f7 (fun e => by rcases e with e | e; omega; have := (hob t e).2; omega) (fun k hk e => by have := (hobt k hk).1; rcases e with rfl | e; omega; have := (hob k e).2; omega)
  have hob7 : ∀ k, ob7 = some k → (w1.heap.size ≤ k ∧ k < w2.heap.size) ∨ w6.heap.size ≤ k := fun k hk => by
    by_cases c : k < w6.heap.size
    · exact .inl (hob k (o7 k hk c))
    · exact .inr (by omega)
  have hm := insAll_len (normI la) lb
  have hrem := set_rem s7 (by omega) A la ca (by omega) (by omega) (rd10 HA.out bw7 s ob7 (by omega) fun k hk => by rcases hob7 k hk with h | h <;> omega)
  have HRem := Lib.hid hrem
  have HLen := Lib.hid (set_len s7)
  have G7 := Lib.hid (And.intro bw7 (And.intro F17 (And.intro F27 (And.intro T7 hob7))))
  clear hrem s7 o7 f7 bw6 F16 bw7 F17 F27 T7 hob7 hob
  have HT := Lib.hid hobt
  clear hobt
  go_wp2_with fail
  refine HLen.out.mono ?_
  rintro e w7 ⟨rfl, rfl⟩
  go_wp2_with fail
  refine HRem.out.mono ?_
  rintro e w8 ⟨rfl, ob8, s8, o8, f8⟩
  obtain ⟨bw7, F17, F27, T7, hob7⟩ := G7.out
  have hobt := HT.out
  have z8 := f8.size
  have bw8 : RowKit.Below w.heap.size w w8 := bw7.trans (f8.below (by omega) fun k _ e => by rcases e with rfl | e; omega; rcases hob7 k e with h | h <;> omega)
  have F18 := talein_fr F17 f8 (fun k h1 h2 e => by rcases e with rfl | e; omega; rcases hob7 k e with h | h <;> omega)
  have F28 := talein_fr F27 f8 (fun k h1 h2 e => by rcases e with rfl | e; omega; rcases hob7 k e with h | h <;> omega)
  have T8 := set_fr T7 f8 (fun e => by rcases e with e | e; omega; rcases hob7 t e with h | h <;> omega) (fun k hk e => by have := hobt k hk; rcases e with rfl | e; omega; rcases hob7 k e with h | h <;> omega)
  have hob8 : ∀ k, ob8 = some k → (w1.heap.size ≤ k ∧ k < w2.heap.size) ∨ w6.heap.size ≤ k := fun k hk => by
    by_cases c : k < w7.heap.size
    · exact hob7 k (o8 k hk c)
    · exact .inr (by omega)
  have hrem := set_rem T8 (by omega) B lb cb (by omega) (by omega) (rd10 HB.out bw8 t obt (by omega) fun k hk => by have := (hobt k hk).1; omega)
  have HRem2 := Lib.hid hrem
  have G8 := Lib.hid (And.intro bw8 (And.intro F18 (And.intro F28 (And.intro s8 hob8))))
  clear hrem s8 o8 f8 bw7 F17 F27 T7 hob7 bw8 F18 F28 T8 hob8 hobt
  go_wp2_with fail
  refine HRem2.out.mono ?_
  rintro e w9 ⟨rfl, ob9, t9, o9, f9⟩
  obtain ⟨bw8, F18, F28, s8, hob8⟩ := G8.out
  have hobt := HT.out
  have z9 := f9.size
  have bw9 : RowKit.Below w.heap.size w w9 := bw8.trans (f9.below (by omega) fun k _ e => by rcases e with rfl | e; omega; have := (hobt k e).1; omega)
  have F19 := talein_fr F18 f9 (fun k h1 h2 e => by rcases e with rfl | e; omega; have := hobt k e; omega)
  have F29 := talein_fr F28 f9 (fun k h1 h2 e => by rcases e with rfl | e; omega; have := hobt k e; omega)
  have S9 := set_fr s8 f9 (fun e => by rcases e with e | e; omega; have := hobt s e; omega) (fun k hk e => by have := hob8 k hk; rcases e with rfl | e; omega; have := hobt k e; omega)
  rw [stays_none] at t9
  have T1 := tells_tale (talein_tale F19) (by omega)
  have T2 := tells_tale (talein_tale F29) (by rw [stays_len]; omega)
  have G9 := Lib.hid (And.intro bw9 (And.intro T1 (And.intro T2 (And.intro S9 t9))))
  clear bw8 F18 F28 s8 hob8 hobt bw9 F19 F29 S9 T1 T2 t9 o9 f9
  go_wp2_with fail
  have z9' := z9
  refine (law_told G9.out.2.1 (by omega) 99 (by omega) (by decide)).mono ?_
  rintro e w10 ⟨⟨v10, rfl, o10⟩, b10⟩
  obtain ⟨A10, c10, rfl⟩ := row_slice o10
  have B10 := Lib.hid b10
  have z10 := b10.size
  clear o10 b10
  go_wp2_with fail
  refine (law_told (tells_below G9.out.2.2.1 B10.out) (by rw [stays_len]; omega) 99 (by rw [stays_len]; omega) (by decide)).mono ?_
  rintro e w11 ⟨⟨v11, rfl, o11⟩, b11⟩
  obtain ⟨A11, c11, hv11⟩ := row_slice o11
  rw [stays_len] at hv11
  subst hv11
  have B11 := Lib.hid (B10.out.trans (b11.mono z10))
  have z11 := b11.size
  clear o11 b11
  go_wp2_with fail
  refine (set_all_nil w11).mono ?_
  rintro e w12 ⟨⟨F12, rfl, f12⟩, b12⟩
  have HT0 := Lib.hid (law_told (tells_tale f12 (by decide)) (by decide) 0 (by decide) (by decide))
  have B12 := Lib.hid (B11.out.trans (b12.mono (by omega)))
  have z12 := b12.size
  clear f12 b12
  go_wp2_with fail
  refine HT0.out.mono ?_
  rintro e w13 ⟨⟨v13, rfl, o13⟩, b13⟩
  obtain ⟨A13, c13, rfl⟩ := row_slice o13
  have B13 := Lib.hid (B12.out.trans (b13.mono (by omega)))
  have z13 := b13.size
  clear o13 b13
  go_wp2_with fail
  refine (without_nil 1 w13).mono ?_
  rintro e w14 ⟨⟨F14, rfl, f14⟩, b14⟩
  have HT1 := Lib.hid (law_told f14 (by decide) 0 (by decide) (by decide))
  have B14 := Lib.hid (B13.out.trans (b14.mono (by omega)))
  have z14 := b14.size
  clear f14 b14
  go_wp2_with fail
  refine HT1.out.mono ?_
  rintro e w15 ⟨⟨v15, rfl, o15⟩, b15⟩
  obtain ⟨A15, c15, rfl⟩ := row_slice o15
  have B15 := Lib.hid (B14.out.trans (b15.mono (by omega)))
  have z15 := b15.size
  clear o15 b15
  go_wp2_with fail
  have hT15 : SetAt w2.heap.size w15 t ob9 [] := set_below G9.out.2.2.2.2 B15.out
  refine (set_len hT15).mono ?_
  clear hT15
  rintro e w15' ⟨rfl, rfl⟩
  go_wp2_with fail
  refine (set_add_nil _ _ _ _).mono ?_
  rintro e w16 ⟨rfl, rfl⟩
  go_wp2_with fail
  refine (set_rem_nil _ _ _ _).mono ?_
  rintro e w17 ⟨rfl, hw17⟩
  have B17 := Lib.hid (show RowKit.Below w9.heap.size w9 w17 by rw [hw17]; exact (B15.out.alloc (by omega) _).alloc (by rw [World.size_alloc]; omega) _)
  have z17 := B17.out.size
  clear hw17
  go_wp2_with fail
  refine (set_has_nil _ _).mono ?_
  rintro e w18 ⟨rfl, rfl⟩
  go_wp2_with fail
  refine (set_len_nil _).mono ?_
  rintro e w19 ⟨rfl, rfl⟩
  go_wp2_with fail
  refine (set_list_nil _).mono ?_
  rintro e w20 ⟨rfl, rfl⟩
  go_wp2_with fail
  have hm8 := delAll_len (insAll (normI la) lb) la
  have hmm := insAll_len (normI la) lb
  refine (meet_none (.inr ⟨_, _, _, rfl, set_below G9.out.2.2.2.1 B17.out⟩) (by omega)).mono ?_
  rintro e w21 ⟨rfl, b21⟩
  have B21 := Lib.hid (B17.out.trans (b21.mono z17))
  have z21 := b21.size
  clear b21
  go_wp2_with fail
  refine (meet_none2 (.inr ⟨_, _, _, rfl, set_below G9.out.2.2.2.1 B21.out⟩) (by omega)).mono ?_
  rintro e w22 ⟨rfl, b22⟩
  have B22 := Lib.hid (B21.out.trans (b22.mono (by omega)))
  clear b22
  go_wp2_with fail
  go_ret
  exact ⟨by simp, G9.out.1.trans (B22.out.mono G9.out.1.size)⟩
theorem reads_of {w : World} {A : Option Addr} {l : List zinT} (hc : 0 < l.length → ∃ g o, A = some ⟨g, o, none⟩ ∧ g < w.heap.size ∧ ∀ i (h : i < l.length) j u, (zinL l[i])[j]? = some u → w.cell? ⟨g, o + i * 1 + j, none⟩ = some u) : ReadsI w A l := fun h => by
  obtain ⟨g, o, h1, h2, h3⟩ := hc h
  exact ⟨g, o, h1, h2, fun i hi => by have := h3 i hi 0 (.int .i64 l[i]) rfl; simpa using this⟩
set_option maxHeartbeats 4000000 in
theorem setStays_walk (A : Option Addr) (la : List zinT) (ca : Nat) (B : Option Addr) (lb : List zinT) (cb : Nat) (w : World)
    (hA : 0 < la.length → ∃ g o, A = some ⟨g, o, none⟩ ∧ g < w.heap.size ∧ ∀ i (h : i < la.length) j u, (zinL la[i])[j]? = some u → w.cell? ⟨g, o + i * 1 + j, none⟩ = some u)
    (hB : 0 < lb.length → ∃ g o, B = some ⟨g, o, none⟩ ∧ g < w.heap.size ∧ ∀ i (h : i < lb.length) j u, (zinL lb[i])[j]? = some u → w.cell? ⟨g, o + i * 1 + j, none⟩ = some u) :
    Calls Try.prog 5 #[.slice A la.length ca, .slice B lb.length cb] w fun e w' => e = .returned (.bool true) ∧ RowKit.Below w.heap.size w w' := by
  have ra := reads_of hA
  have rb := reads_of hB
  clear hA hB
  by_cases h1 : la.length ≤ 30
  · by_cases h2 : lb.length ≤ 30
    · exact setStays_main A B la lb ca cb w h1 h2 ra rb
    · clear ra rb
      have p1 : ¬ ((30 : Int) < (la.length : Int)) := by omega
      have p2 : (30 : Int) < (lb.length : Int) := by omega
      go_enter Try.func5, Try.ntmps5
      go_wp2_with fail
      refine (awake10 w).mono ?_
      rintro e w1 ⟨rfl, b1⟩
      have B1 := Lib.hid b1
      clear b1
      go_wp2_with fail
      go_ret
      exact ⟨rfl, B1.out⟩
  · clear ra rb
    have p1 : (30 : Int) < (la.length : Int) := by omega
    go_enter Try.func5, Try.ntmps5
    go_wp2_with fail
    refine (awake10 w).mono ?_
    rintro e w1 ⟨rfl, b1⟩
    have B1 := Lib.hid b1
    clear b1
    go_wp2_with fail
    go_ret
    exact ⟨rfl, B1.out⟩
end Go.Proofs.Yteiiaocohpbanaa
