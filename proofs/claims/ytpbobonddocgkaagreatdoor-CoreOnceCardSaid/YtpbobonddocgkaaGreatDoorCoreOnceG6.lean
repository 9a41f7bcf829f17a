/- Texts of this proof, one behind the other. -/
import Derived.Test.YtpbobonddocgkaaGreatDoorCoreOnceG5
import Derived.Carry
set_option linter.unusedVariables false
set_option linter.unusedSimpArgs false
section
/- Layer 11: maps of ints to sets of strings: lookups, fill, empty. -/
namespace Go.Proofs.YtpbobonddocgkaaGreatDoor
open Go Go.RowKit Go.Maps Go.Lib

def kVIS (k : Int) : Value := .int .i64 k
def kLIS (k : Int) : Lit := (Lit.int .i64 k)
def OkKIS (k : Int) : Prop := (Lit.int .i64 k).wf = true
theorem kLIS_inj : ∀ a b : Int, kLIS a = kLIS b → a = b := fun a b h => by simpa [kLIS] using h
theorem kLIS_key (k : Int) : WideAt.IsKeyLit (kLIS k) := by simp [kLIS, WideAt.IsKeyLit]
theorem keyedIS : Keyed Tryz.prog 3 := int_keyed Tryz.underlying3
theorem keyOfIS {k : Int} (h : OkKIS k) : keyOf Tryz.prog 3 (kVIS k) = some (kLIS k) := keyOf_int_mk Tryz.underlying3 h
/-- block b is a map of these sets' blocks -/
def OwnMIS (w : World) (b : Nat) (S : List (Int × Nat)) : Prop := (∃ D : DataW Unit, w.ownsMap Tryz.prog 3 ptrE b S.length D ∧ MapHas kLIS vP D S) ∧ ∀ p ∈ S, OkKIS p.1
theorem ownMIS_lt {w : World} {b : Nat} {S : List (Int × Nat)} (h : OwnMIS w b S) : b < w.heap.size := by
  obtain ⟨⟨D, h1, _⟩, _⟩ := h
  exact h1.lt
theorem ownMIS_same {w w' : World} {b : Nat} {S : List (Int × Nat)} (h : OwnMIS w b S) (he : w'.heap[b]? = w.heap[b]?) : OwnMIS w' b S := by
  obtain ⟨⟨D, h1, h2⟩, h3⟩ := h
  exact ⟨⟨D, owns_sameP h1 he, h2⟩, h3⟩
theorem ownMIS_nodup {w : World} {b : Nat} {S : List (Int × Nat)} (h : OwnMIS w b S) : (S.map (·.1)).Nodup := by
  obtain ⟨⟨D, h1, h2⟩, h3⟩ := h
  exact h2.nodup
theorem ownMIS_move {w : World} {b : Nat} {S : List (Int × Nat)} (h : OwnMIS w b S) {k : Int} {s : Nat} (hl : lookM S k = some s) : OwnMIS w b (setM S k s) := by
  obtain ⟨⟨D, h1, h2⟩, h3⟩ := h
  have hm := lookM_memP hl
  have hsz : (setM S k s).length = S.length := by
    have := len_delM h2.nodup k
    rw [if_pos (List.any_eq_true.2 ⟨_, hm, by simp⟩)] at this
    unfold setM
    unfold delM at this
    rw [List.length_append, List.length_singleton]; exact this
  have hsub : ∀ p ∈ setM S k s, p ∈ S := fun p hp => by
    rcases mem_setM.1 hp with ⟨hp, _⟩ | rfl
    · exact hp
    · exact hm
  refine ⟨⟨D, by rw [hsz]; exact h1, ⟨nodup_setM h2.nodup k s, fun p hp => h2.at_ p (hsub p hp), fun kl hk => ?_, by rw [hsz]; exact h2.size⟩⟩, fun p hp => h3 p (hsub p hp)⟩
  obtain ⟨p, hp, e⟩ := h2.only kl hk
  by_cases c : p.1 = k
  · exact ⟨(k, s), mem_setM.2 (.inr rfl), by rw [← e, c]⟩
  · exact ⟨p, mem_setM.2 (.inl ⟨hp, c⟩), e⟩
theorem mlookIS {w : World} {b : Nat} {S : List (Int × Nat)} (h : OwnMIS w b S) {k : Int} (hk : OkKIS k) : (Instr.lookup 131 (.map (some b)) (kVIS k) false).run Tryz.prog w = .ok (.pointer ((lookM S k).map fun s => ⟨s, 0, none⟩)) w := by
  obtain ⟨⟨D, a5, a6⟩, a7⟩ := h
  have hz : (zeroValue 156).run Tryz.prog w = .ok (.pointer none) w := by kernel_rfl
  obtain ⟨v, ps, h1, h2⟩ := a5.lookup keyedIS Tryz.underlying131 hz (zd := .lit (.int .i64 (-1))) (zp := []) rfl (keyOfIS hk)
  rw [h1]
  rw [a6.look kLIS_inj] at h2
  cases hl : lookM S k with
  | none =>
    rw [hl] at h2
    rcases ptrE_inv h2 with ⟨rfl, _⟩ | ⟨s, _, e⟩
    · rfl
    · omega
  | some s =>
    rw [hl] at h2
    rcases ptrE_inv h2 with ⟨_, e⟩ | ⟨s2, rfl, e⟩
    · omega
    · obtain rfl : s = s2 := by omega
      rfl
theorem mputIS {w : World} {b : Nat} {S : List (Int × Nat)} (h : OwnMIS w b S) {k : Int} (hk : OkKIS k) (s : Nat) (hl : S.length ≤ 1000000) :
    ∃ w', (Instr.mapUpdate 131 (.map (some b)) (kVIS k) (.pointer (some ⟨s, 0, none⟩))).run Tryz.prog w = .ok () w' ∧ OwnMIS w' b (setM S k s) ∧ Fr (fun j => j = b) w w' := by
  obtain ⟨⟨D, a5, a6⟩, a7⟩ := h
  obtain ⟨w', h1, h2, h3⟩ := a5.update keyedIS Tryz.underlying131 (by unfold maxLen; omega) (keyOfIS hk) (val := .pointer (some ⟨s, 0, none⟩)) (d := vP s) (ps := []) rfl
  have h6 := a6.put kLIS_inj (a5.tidy keyedIS) k (kLIS_key k) s
  refine ⟨w', h1, ⟨⟨_, by rw [← h6.size]; exact owns_tightP h2, h6⟩, fun p hp => ?_⟩, (Fr.refl _ w).grown h3 fun j e => by cases e; exact .inr rfl⟩
  rcases mem_setM.1 hp with ⟨hp, _⟩ | rfl
  · exact a7 p hp
  · exact hk
theorem mdelIS {w : World} {b : Nat} {S : List (Int × Nat)} (h : OwnMIS w b S) {k : Int} (hk : OkKIS k) (ty : TypeId) :
    ∃ w', (Builtin.delete_ #[131, 3] ty #[.map (some b), kVIS k]).run Tryz.prog w = .ok (.tuple #[]) w' ∧ OwnMIS w' b (delM S k) ∧ Fr (fun j => j = b) w w' := by
  obtain ⟨⟨D, a5, a6⟩, a7⟩ := h
  obtain ⟨w', h1, h2, h3⟩ := a5.drop keyedIS Tryz.underlying131 (keyOfIS hk) ty
  have h6 := a6.del kLIS_inj (a5.tidy keyedIS) k
  exact ⟨w', h1, ⟨⟨_, by rw [← h6.size]; exact owns_tightP h2, h6⟩, fun p hp => a7 p (mem_delM.1 hp).1⟩, (Fr.refl _ w).grown h3.grown fun j e => by cases e; exact .inr rfl⟩
/-- a map of sets as it lies -/
def MapStIS (base : Nat) (w : World) (b : Nat) (T : List (Int × SetE (List UInt8))) : Prop :=
  base ≤ b ∧ OwnMIS w b (kp T) ∧ (∀ p ∈ T, SetAtS base w p.2.s p.2.ob p.2.xs ∧ base ≤ p.2.s ∧ p.2.s ≠ b ∧ p.2.ob ≠ some b) ∧ AprT T
theorem setLtIS {base : Nat} {w : World} {s : Nat} {ob : Option Nat} {xs : List (List UInt8)} (h : SetAtS base w s ob xs) : s < w.heap.size ∧ ∀ g, ob = some g → base ≤ g ∧ g < w.heap.size := by
  obtain ⟨⟨v, a, rfl, b⟩, c, d⟩ := h
  exact ⟨blk_lt a, fun g hg => b.lt g hg⟩
theorem blPIS_lt {base : Nat} {w : World} {b : Nat} {T : List (Int × SetE (List UInt8))} (h : MapStIS base w b T) {j : Nat} (hj : BlP b T j) : base ≤ j ∧ j < w.heap.size := by
  obtain ⟨h1, h2, h3, h4⟩ := h
  rcases hj with rfl | ⟨p, hp, rfl | e⟩
  · exact ⟨h1, ownMIS_lt h2⟩
  · exact ⟨(h3 p hp).2.1, (setLtIS (h3 p hp).1).1⟩
  · exact (setLtIS (h3 p hp).1).2 j e
theorem mapStIS_same {base : Nat} {w w' : World} {b : Nat} {T : List (Int × SetE (List UInt8))} (h : MapStIS base w b T) (hs : ∀ j, BlP b T j → w'.heap[j]? = w.heap[j]?) : MapStIS base w' b T := by
  obtain ⟨h1, h2, h3, h4⟩ := h
  exact ⟨h1, ownMIS_same h2 (hs b (.inl rfl)), fun p hp => ⟨set_keptS (h3 p hp).1 (hs _ (.inr ⟨p, hp, .inl rfl⟩)) fun g hg => hs g (.inr ⟨p, hp, .inr hg⟩), (h3 p hp).2⟩, h4⟩
theorem mapStIS_fr {base : Nat} {w w' : World} {b : Nat} {T : List (Int × SetE (List UInt8))} {X : Nat → Prop} (h : MapStIS base w b T) (hf : Fr X w w') (hx : ∀ j, BlP b T j → ¬ X j) : MapStIS base w' b T :=
  mapStIS_same h fun j hj => hf.block j (blPIS_lt h hj).2 (hx j hj)
theorem mapStIS_nodup {base : Nat} {w : World} {b : Nat} {T : List (Int × SetE (List UInt8))} (h : MapStIS base w b T) : (T.map (·.1)).Nodup := by
  have := ownMIS_nodup h.2.1
  unfold kp at this
  rwa [List.map_map] at this
/-- no set is empty -/
def NeTIS (T : List (Int × SetE (List UInt8))) : Prop := ∀ p ∈ T, p.2.xs ≠ []
/-- under one key stands something else now -/
def PutPIS (base b : Nat) (T : List (Int × SetE (List UInt8))) (k : Int) (zs : List (List UInt8)) (w w' : World) : Prop :=
  ∃ T', MapStIS base w' b T' ∧ (∀ j, lk T' j = if j = k then zs else lk T j) ∧ (NeTIS T → NeTIS T') ∧ Fr (BlP b T) w w' ∧ (∀ j, BlP b T' j → BlP b T j ∨ w.heap.size ≤ j) ∧ T'.length ≤ T.length + 1
/-- a set under a key turned, by a call that writes its blocks alone -/
theorem turnIS {base : Nat} {w1 w' : World} {b : Nat} {T : List (Int × SetE (List UInt8))} (h : MapStIS base w1 b T) {k : Int} {e : SetE (List UInt8)} (hl : lookM T k = some e) {ob' : Option Nat} {zs : List (List UInt8)}
    (hs : SetAtS base w' e.s ob' zs) (hnew : ∀ g, ob' = some g → g < w1.heap.size → e.ob = some g) (hf : Fr (fun j => j = e.s ∨ e.ob = some j) w1 w') :
    MapStIS base w' b (setM T k ⟨e.s, ob', zs⟩) ∧ (∀ j, BlP b (setM T k ⟨e.s, ob', zs⟩) j → BlP b T j ∨ w1.heap.size ≤ j) := by
  obtain ⟨h1, h2, h3, h4⟩ := h
  have hm := lookM_memP hl
  have hne : ∀ p ∈ T, p.1 ≠ k → AprE p.2 e := fun p hp hpk => h4 p hp (k, e) hm hpk
  have hob : ∀ g, ob' = some g → e.ob = some g ∨ w1.heap.size ≤ g := fun g hg => by
    rcases Nat.lt_or_ge g w1.heap.size with h | h
    · exact .inl (hnew g hg h)
    · exact .inr h
  have hsz := fun p hp => setLtIS (h3 p hp).1
  have hbl := ownMIS_lt h2
  refine ⟨⟨h1, ?_, fun p hp => ?_, aprT_set h4 fun p hp hpk => ?_⟩, fun j hj => ?_⟩
  · rw [kp_set]
    refine ownMIS_move (ownMIS_same h2 (hf.block b hbl ?_)) (by rw [kp_look, hl]; rfl)
    rintro (e1 | e1)
    · exact (h3 _ hm).2.2.1 e1.symm
    · exact (h3 _ hm).2.2.2 e1
  · rcases mem_setM.1 hp with ⟨hp, hpk⟩ | rfl
    · have ha := hne p hp hpk
      refine ⟨set_keptS (h3 p hp).1 (hf.block _ (hsz p hp).1 ?_) fun g hg => hf.block g ((hsz p hp).2 g hg).2 ?_, (h3 p hp).2⟩
      · rintro (e1 | e1)
        · exact ha.1 e1
        · exact ha.2.2.1 e1
      · rintro (e1 | e1)
        · exact ha.2.1 (e1 ▸ hg)
        · exact ha.2.2.2 g hg e1
    · refine ⟨hs, (h3 _ hm).2.1, (h3 _ hm).2.2.1, fun e1 => ?_⟩
      rcases hob b e1 with e2 | e2
      · exact (h3 _ hm).2.2.2 e2
      · omega
  · have ha := hne p hp hpk
    refine ⟨ha.1, ha.2.1, fun e1 => ?_, fun g hg e1 => ?_⟩
    · rcases hob _ e1 with e2 | e2
      · exact ha.2.2.1 e2
      · have := (hsz p hp).1; omega
    · rcases hob _ e1 with e2 | e2
      · exact ha.2.2.2 g hg e2
      · have := ((hsz p hp).2 g hg).2; omega
  · rcases hj with rfl | ⟨p, hp, hj⟩
    · exact .inl (.inl rfl)
    · rcases mem_setM.1 hp with ⟨hp, _⟩ | rfl
      · exact .inl (.inr ⟨p, hp, hj⟩)
      · rcases hj with rfl | hj
        · exact .inl (.inr ⟨(k, e), hm, .inl rfl⟩)
        · rcases hob j hj with e2 | e2
          · exact .inl (.inr ⟨(k, e), hm, .inr e2⟩)
          · exact .inr e2
end Go.Proofs.YtpbobonddocgkaaGreatDoor
end
section
/- Layer 11: maps of ints to sets of strings: fill, empty. -/
namespace Go.Proofs.YtpbobonddocgkaaGreatDoor
open Go Go.RowKit Go.Maps Go.Lib

theorem set_baseIS {b0 b1 : Nat} {w : World} {s : Nat} {ob : Option Nat} {xs : List (List UInt8)} (h : SetAtS b1 w s ob xs) (hb : b0 ≤ b1) : SetAtS b0 w s ob xs := by
  obtain ⟨⟨v, h1, h2, h3⟩, h4, h5⟩ := h
  exact ⟨⟨v, h1, h2, row_baseP h3 hb⟩, h4, h5⟩
/-- a new empty set under a key that had none -/
theorem newIS {base : Nat} {w w1 : World} {b : Nat} {T : List (Int × SetE (List UInt8))} (h : MapStIS base w b T) {k : Int} {s : Nat} {ob : Option Nat} (hs : SetAtS w.heap.size w1 s ob []) (hsz : w.heap.size ≤ s) (hbw : base ≤ w.heap.size) (hf : Fr (fun _ => False) w w1) :
    (∀ w2, OwnMIS w2 b (setM (kp T) k s) → Fr (fun j => j = b) w1 w2 → MapStIS base w2 b (setM T k ⟨s, ob, []⟩)) ∧ ∀ j, BlP b (setM T k ⟨s, ob, []⟩) j → BlP b T j ∨ w.heap.size ≤ j := by
  have hlt : ∀ {j}, BlP b T j → j < w.heap.size := fun hj => (blPIS_lt h hj).2
  have h' := mapStIS_fr h hf fun _ _ e => e
  obtain ⟨h1, h2, h3, h4⟩ := h'
  have hob : ∀ g, ob = some g → w.heap.size ≤ g := fun g hg => ((setLtIS hs).2 g hg).1
  refine ⟨fun w2 ho hf2 => ⟨h1, by rw [kp_set]; exact ho, fun p hp => ?_, aprT_set h4 fun p hp hpk => ?_⟩, fun j hj => ?_⟩
  · rcases mem_setM.1 hp with ⟨hp, hpk⟩ | rfl
    · obtain ⟨a1, a2, a3, a4⟩ := h3 p hp
      exact ⟨set_keptS a1 (hf2.block _ (setLtIS a1).1 a3) fun g hg => hf2.block g ((setLtIS a1).2 g hg).2 (fun e => a4 (e ▸ hg)), a2, a3, a4⟩
    · have hb := hlt (.inl rfl : BlP b T b)
      refine ⟨set_keptS (set_baseIS hs hbw) (hf2.block _ (setLtIS hs).1 (fun e => by have e : s = b := e; omega)) fun g hg => hf2.block g ((setLtIS hs).2 g hg).2 (by have := hob g hg; omega), Nat.le_trans hbw hsz, fun e => by have e : s = b := e; omega, fun e => ?_⟩
      have := hob b e; omega
  · have q1 := hlt (.inr ⟨p, hp, .inl rfl⟩ : BlP b T p.2.s)
    have q2 := fun g (hg : p.2.ob = some g) => hlt (.inr ⟨p, hp, .inr hg⟩ : BlP b T g)
    refine ⟨fun e => by have e : p.2.s = s := e; omega, fun e => ?_, fun e => ?_, fun g hg e => ?_⟩
    · have := q2 s e; omega
    · have := hob _ e; omega
    · have := q2 _ hg; have := hob _ e; omega
  · rcases hj with rfl | ⟨p, hp, hj⟩
    · exact .inl (.inl rfl)
    · rcases mem_setM.1 hp with ⟨hp, _⟩ | rfl
      · exact .inl (.inr ⟨p, hp, hj⟩)
      · rcases hj with rfl | hj
        · exact .inr hsz
        · exact .inr (hob j hj)
theorem lkUpIS {base : Nat} {w : World} {b : Nat} {T : List ((Int) × SetE (List UInt8))} (h : MapStIS base w b T) (k : Int) : (lk T k).Pairwise (· < ·) := by
  unfold lk
  cases hl : lookM T k with
  | none => exact List.Pairwise.nil
  | some e => exact (h.2.2.1 _ (lookM_memP hl)).1.2.2
theorem mapSt_baseIS {b0 b1 : Nat} {w : World} {b : Nat} {T : List (Int × SetE (List UInt8))} (h : MapStIS b1 w b T) (hb : b0 ≤ b1) : MapStIS b0 w b T :=
  ⟨Nat.le_trans hb h.1, h.2.1, fun p hp => ⟨set_baseIS (h.2.2.1 p hp).1 hb, Nat.le_trans hb (h.2.2.1 p hp).2.1, (h.2.2.1 p hp).2.2⟩, h.2.2.2⟩
theorem made_stIS {base : Nat} {w : World} {b : Nat} (hb : base ≤ b) (h : ∃ n, w.ownsMap Tryz.prog 3 ptrE b n (.map [] : DataW Unit) ∧ n = 0) : MapStIS base w b [] := by
  obtain ⟨n, h, rfl⟩ := h
  exact ⟨hb, ⟨⟨.map [], h, mapHas_empty _ _⟩, (fun p hp => by cases hp)⟩, (fun p hp => by cases hp), (fun p hp => by cases hp)⟩
theorem lk_noneIS {T : List (Int × SetE (List UInt8))} {k : Int} (h : lookM T k = none) : lk T k = [] := by unfold lk; rw [h]
theorem lk_someIS {T : List (Int × SetE (List UInt8))} {k : Int} {e : SetE (List UInt8)} (h : lookM T k = some e) : lk T k = e.xs := by unfold lk; rw [h]
theorem lkHasIS {T : List ((Int) × SetE (List UInt8))} {a : Int} {b : List UInt8} (h : b ∈ lk T a) : ∃ e, lookM T a = some e ∧ e.xs = lk T a := by
  unfold lk at h ⊢
  cases hl : lookM T a with
  | none => rw [hl] at h; cases h
  | some e => exact ⟨e, rfl, rfl⟩
theorem insAll1IS (xs : List (List UInt8)) (x : List UInt8) : insAllS xs [x] = insIS xs x := rfl
theorem delAll1IS (xs : List (List UInt8)) (x : List UInt8) : delAllS xs [x] = delIS xs x := rfl
theorem insNeIS (xs : List (List UInt8)) (x : List UInt8) : insIS xs x ≠ [] := fun e => by
  have := insI_lenS xs x
  rw [e] at this
  split at this
  · rename_i h; simp only [List.length_nil] at this
    have := List.eq_nil_of_length_eq_zero this.symm
    subst this; simp at h
  · simp at this
theorem neT_setIS {T : List (Int × SetE (List UInt8))} (h : NeTIS T) {k : Int} {e : SetE (List UInt8)} (he : e.xs ≠ []) : NeTIS (setM T k e) := fun p hp => by
  rcases mem_setM.1 hp with ⟨hp, _⟩ | rfl
  · exact h p hp
  · exact he
set_option maxRecDepth 100000 in
set_option maxHeartbeats 4000000 in
theorem fillIS {base : Nat} {w : World} {b : Nat} {T : List (Int × SetE (List UInt8))} (h : MapStIS base w b T) (hbw : base ≤ w.heap.size) {k : Int} (hk : OkKIS k) (x : List UInt8) (hT : T.length ≤ 100000) (hl : (lk T k).length ≤ 100000) :
    Calls Tryz.prog 67 #[.map (some b), .int .i64 k, .string (bs x)] w fun e w' => e = .returned (.tuple #[]) ∧ PutPIS base b T k (insIS (lk T k) x) w w' := by
  have hlook := mlookIS h.2.1 hk
  rw [kp_look] at hlook
  cases hlk : lookM T k with
  | none =>
    rw [hlk] at hlook
    simp only [Option.map_none] at hlook
    have HOf := Lib.hid (set_ofS w)
    have HH := Lib.hid h
    have HK := Lib.hid hk
    have hlk0 := Lib.hid hlk
    have hl0 := lk_noneIS hlk
    rw [hl0]
    have HL0 := Lib.hid hl0
    unfold kVIS at hlook
    clear hlk h hk hl0
    go_enter Tryz.func67, Tryz.ntmps67
    go_wp2_with fail
    refine HOf.out.mono ?_
    rintro e w1 ⟨⟨s, ob, rfl, hs, hsz⟩, hb1⟩
    have hf1 := Fr.of_below (X := fun _ => False) hb1
    have ho1 := ownMIS_same HH.out.2.1 (hf1.block b (ownMIS_lt HH.out.2.1) fun e => e)
    obtain ⟨w2, hput, ho2, hf2⟩ := mputIS ho1 HK.out s (by rw [kp_len]; omega)
    obtain ⟨hm, hbl⟩ := newIS (k := k) HH.out hs hsz hbw hf1
    have hm2 := hm w2 ho2 hf2
    have hlook2 := mlookIS hm2.2.1 HK.out
    rw [kp_look, lookM_set, if_pos rfl] at hlook2
    simp only [Option.map_some] at hlook2
    unfold kVIS at hput hlook2
    obtain ⟨w3, hw3⟩ : ∃ w3, w2.alloc (Obj.cells #[.string (bs x)] 9) = w3 := ⟨_, rfl⟩
    have hf3 : Fr (fun _ => False) w2 w3 := by rw [← hw3]; exact (Fr.refl _ w2).alloc _
    have hm3 := mapStIS_fr hm2 hf3 fun _ _ e => e
    have hn3 : w3.heap[w2.heap.size]? = some (.cells #[.string (bs x)] 9 (0, 0)) := by rw [← hw3]; exact heap_alloc_new w2 _
    have hz3 := blk_lt hn3
    have hmem : (k, (⟨s, ob, []⟩ : SetE (List UInt8))) ∈ setM T k ⟨s, ob, []⟩ := mem_setM.2 (.inr rfl)
    have hset3 := (hm3.2.2.1 _ hmem).1
    have hz12 := hf2.size
    have hz01 := hf1.size
    have hlts := (setLtIS hs).1
    have hltg := (setLtIS hs).2
    have HAdd := Lib.hid (set_addS hset3 (by have := hf3.size; omega) (some ⟨w2.heap.size, 0, none⟩) [x] 1 (by simp) (fun _ => ⟨_, _, rfl, hz3, by simp only []; omega, fun e => by have := (hltg _ e).2; omega, fun j hj => by
      obtain rfl : j = 0 := by simp at hj; omega
      exact blk_cell hn3 0⟩))
    have H := Lib.hid (And.intro hm3 (And.intro hbl (And.intro hf1 (And.intro hf2 hf3))))
    have HW := Lib.hid hw3
    clear hw3 hm3 hbl hf1 hf2 hf3 hm hm2 ho1 ho2 hb1 hs hn3 hz3 hset3 hmem hltg
    go_wp2_with fail
    rw [HW.out]
    refine HAdd.out.mono ?_
    rintro e w4 ⟨rfl, ob', hs4, hn4, hf4⟩
    obtain ⟨hm3, hbl, hf1, hf2, hf3⟩ := H.out
    obtain ⟨hm4, hbl4⟩ := turnIS hm3 (k := k) (e := ⟨s, ob, []⟩) (by rw [lookM_set, if_pos rfl]) hs4 hn4 hf4
    have hlen : (setM (setM T k ⟨s, ob, []⟩) k (⟨s, ob', insAllS [] [x]⟩ : SetE (List UInt8))).length ≤ T.length + 1 := by rw [setM_setM]; exact len_setP _ _ _
    have hP : PutPIS base b T k (insIS [] x) w w4 := by
      refine ⟨_, hm4, fun j => ?_, fun hne => ?_, ?_, fun j hj => ?_, hlen⟩
      · rw [lk_set, lk_set]
        by_cases e : j = k
        · rw [if_pos e, if_pos e]; rfl
        · rw [if_neg e, if_neg e, if_neg e]
      · rw [setM_setM]
        exact neT_setIS hne (insNeIS [] x)
      · refine (((hf1.mono fun _ _ e => e.elim : Fr (BlP b T) w w1).trans3 hf2 fun j hj e => ?_).trans3 hf3 fun j hj e => e.elim).trans3 hf4 fun j hj e => ?_
        · subst e; exact .inl rfl
        · rcases e with rfl | e
          · omega
          · have := (hbl j (.inr ⟨_, mem_setM.2 (.inr rfl), .inr e⟩)).resolve_right (by omega)
            exact this
      · rcases hbl4 j hj with e | e
        · exact hbl j e
        · exact .inr (by have := hf3.size; omega)
    have HP := Lib.hid hP
    clear hP hm4 hbl4 hlen hm3 hbl hf1 hf2 hf3 hs4 hn4 hf4
    go_wp2_with fail
    go_end0
    exact ⟨rfl, HP.out⟩
  | some e =>
    rw [hlk] at hlook
    simp only [Option.map_some] at hlook
    rw [lk_someIS hlk] at hl ⊢
    have hmem := lookM_memP hlk
    obtain ⟨w3, hw3⟩ : ∃ w3, w.alloc (Obj.cells #[.string (bs x)] 9) = w3 := ⟨_, rfl⟩
    have hf3 : Fr (fun _ => False) w w3 := by rw [← hw3]; exact (Fr.refl _ w).alloc _
    have hm3 := mapStIS_fr h hf3 fun _ _ e => e
    have hn3 : w3.heap[w.heap.size]? = some (.cells #[.string (bs x)] 9 (0, 0)) := by rw [← hw3]; exact heap_alloc_new w _
    have hz3 := blk_lt hn3
    have hset3 := (hm3.2.2.1 _ hmem).1
    have hlts := (setLtIS (h.2.2.1 _ hmem).1).1
    have hltg := (setLtIS (h.2.2.1 _ hmem).1).2
    have HAdd := Lib.hid (set_addS hset3 (by omega) (some ⟨w.heap.size, 0, none⟩) [x] 1 (by simp only [List.length_singleton]; omega) (fun _ => ⟨_, _, rfl, hz3, fun e1 => by have e1 : w.heap.size = e.s := e1; have hlts : e.s < w.heap.size := hlts; omega, fun e1 => by have := (hltg _ e1).2; omega, fun j hj => by
      obtain rfl : j = 0 := by simp at hj; omega
      exact blk_cell hn3 0⟩))
    obtain ⟨es, eob, exs⟩ := e
    have H := Lib.hid (And.intro hm3 (And.intro hlk hf3))
    have HW := Lib.hid hw3
    unfold kVIS at hlook
    clear hw3 hm3 hf3 hn3 hz3 hset3 hmem hltg hlk h hlts
    dsimp only [] at HAdd hlook hl
    dsimp only []
    go_enter Tryz.func67, Tryz.ntmps67
    go_wp2_with fail
    rw [HW.out]
    refine HAdd.out.mono ?_
    rintro e w4 ⟨rfl, ob', hs4, hn4, hf4⟩
    obtain ⟨hm3, hlk, hf3⟩ := H.out
    obtain ⟨hm4, hbl4⟩ := turnIS hm3 (k := k) (e := ⟨es, eob, exs⟩) hlk hs4 hn4 hf4
    have hmem := lookM_memP hlk
    have hP : PutPIS base b T k (insIS exs x) w w4 := by
      refine ⟨_, hm4, fun j => ?_, fun hne => ?_, ?_, fun j hj => ?_, len_setP _ _ _⟩
      · rw [lk_set]; rfl
      · exact neT_setIS hne (insNeIS exs x)
      · refine (hf3.mono fun _ _ e => e.elim : Fr (BlP b T) w w3).trans3 hf4 fun j hj e => ?_
        rcases e with rfl | e
        · exact .inr ⟨_, hmem, .inl rfl⟩
        · exact .inr ⟨_, hmem, .inr e⟩
      · rcases hbl4 j hj with e | e
        · exact .inl e
        · exact .inr (by have := hf3.size; omega)
    have HP := Lib.hid hP
    clear hP hm4 hbl4 hm3 hf3 hs4 hn4 hf4 hlk hmem
    go_wp2_with fail
    go_end0
    exact ⟨rfl, HP.out⟩
theorem delStIS {base : Nat} {w w' : World} {b : Nat} {T : List (Int × SetE (List UInt8))} (h : MapStIS base w b T) {k : Int} (ho : OwnMIS w' b (delM (kp T) k)) (hf : Fr (fun j => j = b) w w') : MapStIS base w' b (delM T k) := by
  obtain ⟨h1, h2, h3, h4⟩ := h
  refine ⟨h1, by rw [kp_del]; exact ho, fun p hp => ?_, aprT_del h4 k⟩
  obtain ⟨a1, a2, a3, a4⟩ := h3 p (mem_delM.1 hp).1
  exact ⟨set_keptS a1 (hf.block _ (setLtIS a1).1 a3) fun g hg => hf.block g ((setLtIS a1).2 g hg).2 (fun e => a4 (e ▸ hg)), a2, a3, a4⟩
end Go.Proofs.YtpbobonddocgkaaGreatDoor
end
section
/- Layer 11: maps of strings to sets of ints: lookups, fill, empty. -/
namespace Go.Proofs.YtpbobonddocgkaaGreatDoor
open Go Go.RowKit Go.Maps Go.Lib

def kVSI (k : List UInt8) : Value := .string (bs k)
def kLSI (k : List UInt8) : Lit := (Lit.string k)
def OkKSI (k : List UInt8) : Prop := k.length ≤ maxLen
theorem kLSI_inj : ∀ a b : List UInt8, kLSI a = kLSI b → a = b := fun a b h => by simpa [kLSI] using h
theorem kLSI_key (k : List UInt8) : WideAt.IsKeyLit (kLSI k) := by simp [kLSI, WideAt.IsKeyLit]
theorem keyedSI : Keyed Tryz.prog 9 := string_keyed Tryz.underlying9
theorem keyOfSI {k : List UInt8} (h : OkKSI k) : keyOf Tryz.prog 9 (kVSI k) = some (kLSI k) := WideMaps.keyOf_string_mk Tryz.underlying9 (by simpa [OkKSI] using h)
/-- block b is a map of these sets' blocks -/
def OwnMSI (w : World) (b : Nat) (S : List (List UInt8 × Nat)) : Prop := (∃ D : DataW Unit, w.ownsMap Tryz.prog 9 ptrE b S.length D ∧ MapHas kLSI vP D S) ∧ ∀ p ∈ S, OkKSI p.1
theorem ownMSI_lt {w : World} {b : Nat} {S : List (List UInt8 × Nat)} (h : OwnMSI w b S) : b < w.heap.size := by
  obtain ⟨⟨D, h1, _⟩, _⟩ := h
  exact h1.lt
theorem ownMSI_same {w w' : World} {b : Nat} {S : List (List UInt8 × Nat)} (h : OwnMSI w b S) (he : w'.heap[b]? = w.heap[b]?) : OwnMSI w' b S := by
  obtain ⟨⟨D, h1, h2⟩, h3⟩ := h
  exact ⟨⟨D, owns_sameP h1 he, h2⟩, h3⟩
theorem ownMSI_nodup {w : World} {b : Nat} {S : List (List UInt8 × Nat)} (h : OwnMSI w b S) : (S.map (·.1)).Nodup := by
  obtain ⟨⟨D, h1, h2⟩, h3⟩ := h
  exact h2.nodup
theorem ownMSI_move {w : World} {b : Nat} {S : List (List UInt8 × Nat)} (h : OwnMSI w b S) {k : List UInt8} {s : Nat} (hl : lookM S k = some s) : OwnMSI w b (setM S k s) := by
  obtain ⟨⟨D, h1, h2⟩, h3⟩ := h
  have hm := lookM_memP hl
  have hsz : (setM S k s).length = S.length := by
    have := len_delM h2.nodup k
    rw [if_pos (List.any_eq_true.2 ⟨_, hm, by simp⟩)] at this
    unfold setM
    unfold delM at this
    rw [List.length_append, List.length_singleton]; exact this
  have hsub : ∀ p ∈ setM S k s, p ∈ S := fun p hp => by
    rcases mem_setM.1 hp with ⟨hp, _⟩ | rfl
    · exact hp
    · exact hm
  refine ⟨⟨D, by rw [hsz]; exact h1, ⟨nodup_setM h2.nodup k s, fun p hp => h2.at_ p (hsub p hp), fun kl hk => ?_, by rw [hsz]; exact h2.size⟩⟩, fun p hp => h3 p (hsub p hp)⟩
  obtain ⟨p, hp, e⟩ := h2.only kl hk
  by_cases c : p.1 = k
  · exact ⟨(k, s), mem_setM.2 (.inr rfl), by rw [← e, c]⟩
  · exact ⟨p, mem_setM.2 (.inl ⟨hp, c⟩), e⟩
theorem mlookSI {w : World} {b : Nat} {S : List (List UInt8 × Nat)} (h : OwnMSI w b S) {k : List UInt8} (hk : OkKSI k) : (Instr.lookup 132 (.map (some b)) (kVSI k) false).run Tryz.prog w = .ok (.pointer ((lookM S k).map fun s => ⟨s, 0, none⟩)) w := by
  obtain ⟨⟨D, a5, a6⟩, a7⟩ := h
  have hz : (zeroValue 160).run Tryz.prog w = .ok (.pointer none) w := by kernel_rfl
  obtain ⟨v, ps, h1, h2⟩ := a5.lookup keyedSI Tryz.underlying132 hz (zd := .lit (.int .i64 (-1))) (zp := []) rfl (keyOfSI hk)
  rw [h1]
  rw [a6.look kLSI_inj] at h2
  cases hl : lookM S k with
  | none =>
    rw [hl] at h2
    rcases ptrE_inv h2 with ⟨rfl, _⟩ | ⟨s, _, e⟩
    · rfl
    · omega
  | some s =>
    rw [hl] at h2
    rcases ptrE_inv h2 with ⟨_, e⟩ | ⟨s2, rfl, e⟩
    · omega
    · obtain rfl : s = s2 := by omega
      rfl
theorem mputSI {w : World} {b : Nat} {S : List (List UInt8 × Nat)} (h : OwnMSI w b S) {k : List UInt8} (hk : OkKSI k) (s : Nat) (hl : S.length ≤ 1000000) :
    ∃ w', (Instr.mapUpdate 132 (.map (some b)) (kVSI k) (.pointer (some ⟨s, 0, none⟩))).run Tryz.prog w = .ok () w' ∧ OwnMSI w' b (setM S k s) ∧ Fr (fun j => j = b) w w' := by
  obtain ⟨⟨D, a5, a6⟩, a7⟩ := h
  obtain ⟨w', h1, h2, h3⟩ := a5.update keyedSI Tryz.underlying132 (by unfold maxLen; omega) (keyOfSI hk) (val := .pointer (some ⟨s, 0, none⟩)) (d := vP s) (ps := []) rfl
  have h6 := a6.put kLSI_inj (a5.tidy keyedSI) k (kLSI_key k) s
  refine ⟨w', h1, ⟨⟨_, by rw [← h6.size]; exact owns_tightP h2, h6⟩, fun p hp => ?_⟩, (Fr.refl _ w).grown h3 fun j e => by cases e; exact .inr rfl⟩
  rcases mem_setM.1 hp with ⟨hp, _⟩ | rfl
  · exact a7 p hp
  · exact hk
theorem mdelSI {w : World} {b : Nat} {S : List (List UInt8 × Nat)} (h : OwnMSI w b S) {k : List UInt8} (hk : OkKSI k) (ty : TypeId) :
    ∃ w', (Builtin.delete_ #[132, 9] ty #[.map (some b), kVSI k]).run Tryz.prog w = .ok (.tuple #[]) w' ∧ OwnMSI w' b (delM S k) ∧ Fr (fun j => j = b) w w' := by
  obtain ⟨⟨D, a5, a6⟩, a7⟩ := h
  obtain ⟨w', h1, h2, h3⟩ := a5.drop keyedSI Tryz.underlying132 (keyOfSI hk) ty
  have h6 := a6.del kLSI_inj (a5.tidy keyedSI) k
  exact ⟨w', h1, ⟨⟨_, by rw [← h6.size]; exact owns_tightP h2, h6⟩, fun p hp => a7 p (mem_delM.1 hp).1⟩, (Fr.refl _ w).grown h3.grown fun j e => by cases e; exact .inr rfl⟩
/-- a map of sets as it lies -/
def MapStSI (base : Nat) (w : World) (b : Nat) (T : List (List UInt8 × SetE (Int))) : Prop :=
  base ≤ b ∧ OwnMSI w b (kp T) ∧ (∀ p ∈ T, SetAt base w p.2.s p.2.ob p.2.xs ∧ base ≤ p.2.s ∧ p.2.s ≠ b ∧ p.2.ob ≠ some b) ∧ AprT T
theorem setLtSI {base : Nat} {w : World} {s : Nat} {ob : Option Nat} {xs : List (Int)} (h : SetAt base w s ob xs) : s < w.heap.size ∧ ∀ g, ob = some g → base ≤ g ∧ g < w.heap.size := by
  obtain ⟨⟨v, a, rfl, b⟩, c, d⟩ := h
  exact ⟨blk_lt a, fun g hg => b.lt g hg⟩
theorem blPSI_lt {base : Nat} {w : World} {b : Nat} {T : List (List UInt8 × SetE (Int))} (h : MapStSI base w b T) {j : Nat} (hj : BlP b T j) : base ≤ j ∧ j < w.heap.size := by
  obtain ⟨h1, h2, h3, h4⟩ := h
  rcases hj with rfl | ⟨p, hp, rfl | e⟩
  · exact ⟨h1, ownMSI_lt h2⟩
  · exact ⟨(h3 p hp).2.1, (setLtSI (h3 p hp).1).1⟩
  · exact (setLtSI (h3 p hp).1).2 j e
theorem mapStSI_same {base : Nat} {w w' : World} {b : Nat} {T : List (List UInt8 × SetE (Int))} (h : MapStSI base w b T) (hs : ∀ j, BlP b T j → w'.heap[j]? = w.heap[j]?) : MapStSI base w' b T := by
  obtain ⟨h1, h2, h3, h4⟩ := h
  exact ⟨h1, ownMSI_same h2 (hs b (.inl rfl)), fun p hp => ⟨set_kept (h3 p hp).1 (hs _ (.inr ⟨p, hp, .inl rfl⟩)) fun g hg => hs g (.inr ⟨p, hp, .inr hg⟩), (h3 p hp).2⟩, h4⟩
theorem mapStSI_fr {base : Nat} {w w' : World} {b : Nat} {T : List (List UInt8 × SetE (Int))} {X : Nat → Prop} (h : MapStSI base w b T) (hf : Fr X w w') (hx : ∀ j, BlP b T j → ¬ X j) : MapStSI base w' b T :=
  mapStSI_same h fun j hj => hf.block j (blPSI_lt h hj).2 (hx j hj)
theorem mapStSI_nodup {base : Nat} {w : World} {b : Nat} {T : List (List UInt8 × SetE (Int))} (h : MapStSI base w b T) : (T.map (·.1)).Nodup := by
  have := ownMSI_nodup h.2.1
  unfold kp at this
  rwa [List.map_map] at this
/-- no set is empty -/
def NeTSI (T : List (List UInt8 × SetE (Int))) : Prop := ∀ p ∈ T, p.2.xs ≠ []
/-- under one key stands something else now -/
def PutPSI (base b : Nat) (T : List (List UInt8 × SetE (Int))) (k : List UInt8) (zs : List (Int)) (w w' : World) : Prop :=
  ∃ T', MapStSI base w' b T' ∧ (∀ j, lk T' j = if j = k then zs else lk T j) ∧ (NeTSI T → NeTSI T') ∧ Fr (BlP b T) w w' ∧ (∀ j, BlP b T' j → BlP b T j ∨ w.heap.size ≤ j) ∧ T'.length ≤ T.length + 1
/-- a set under a key turned, by a call that writes its blocks alone -/
theorem turnSI {base : Nat} {w1 w' : World} {b : Nat} {T : List (List UInt8 × SetE (Int))} (h : MapStSI base w1 b T) {k : List UInt8} {e : SetE (Int)} (hl : lookM T k = some e) {ob' : Option Nat} {zs : List (Int)}
    (hs : SetAt base w' e.s ob' zs) (hnew : ∀ g, ob' = some g → g < w1.heap.size → e.ob = some g) (hf : Fr (fun j => j = e.s ∨ e.ob = some j) w1 w') :
    MapStSI base w' b (setM T k ⟨e.s, ob', zs⟩) ∧ (∀ j, BlP b (setM T k ⟨e.s, ob', zs⟩) j → BlP b T j ∨ w1.heap.size ≤ j) := by
  obtain ⟨h1, h2, h3, h4⟩ := h
  have hm := lookM_memP hl
  have hne : ∀ p ∈ T, p.1 ≠ k → AprE p.2 e := fun p hp hpk => h4 p hp (k, e) hm hpk
  have hob : ∀ g, ob' = some g → e.ob = some g ∨ w1.heap.size ≤ g := fun g hg => by
    rcases Nat.lt_or_ge g w1.heap.size with h | h
    · exact .inl (hnew g hg h)
    · exact .inr h
  have hsz := fun p hp => setLtSI (h3 p hp).1
  have hbl := ownMSI_lt h2
  refine ⟨⟨h1, ?_, fun p hp => ?_, aprT_set h4 fun p hp hpk => ?_⟩, fun j hj => ?_⟩
  · rw [kp_set]
    refine ownMSI_move (ownMSI_same h2 (hf.block b hbl ?_)) (by rw [kp_look, hl]; rfl)
    rintro (e1 | e1)
    · exact (h3 _ hm).2.2.1 e1.symm
    · exact (h3 _ hm).2.2.2 e1
  · rcases mem_setM.1 hp with ⟨hp, hpk⟩ | rfl
    · have ha := hne p hp hpk
      refine ⟨set_kept (h3 p hp).1 (hf.block _ (hsz p hp).1 ?_) fun g hg => hf.block g ((hsz p hp).2 g hg).2 ?_, (h3 p hp).2⟩
      · rintro (e1 | e1)
        · exact ha.1 e1
        · exact ha.2.2.1 e1
      · rintro (e1 | e1)
        · exact ha.2.1 (e1 ▸ hg)
        · exact ha.2.2.2 g hg e1
    · refine ⟨hs, (h3 _ hm).2.1, (h3 _ hm).2.2.1, fun e1 => ?_⟩
      rcases hob b e1 with e2 | e2
      · exact (h3 _ hm).2.2.2 e2
      · omega
  · have ha := hne p hp hpk
    refine ⟨ha.1, ha.2.1, fun e1 => ?_, fun g hg e1 => ?_⟩
    · rcases hob _ e1 with e2 | e2
      · exact ha.2.2.1 e2
      · have := (hsz p hp).1; omega
    · rcases hob _ e1 with e2 | e2
      · exact ha.2.2.2 g hg e2
      · have := ((hsz p hp).2 g hg).2; omega
  · rcases hj with rfl | ⟨p, hp, hj⟩
    · exact .inl (.inl rfl)
    · rcases mem_setM.1 hp with ⟨hp, _⟩ | rfl
      · exact .inl (.inr ⟨p, hp, hj⟩)
      · rcases hj with rfl | hj
        · exact .inl (.inr ⟨(k, e), hm, .inl rfl⟩)
        · rcases hob j hj with e2 | e2
          · exact .inl (.inr ⟨(k, e), hm, .inr e2⟩)
          · exact .inr e2
end Go.Proofs.YtpbobonddocgkaaGreatDoor
end
section
/- Layer 11: maps of strings to sets of ints: fill, empty. -/
namespace Go.Proofs.YtpbobonddocgkaaGreatDoor
open Go Go.RowKit Go.Maps Go.Lib

theorem set_baseSI {b0 b1 : Nat} {w : World} {s : Nat} {ob : Option Nat} {xs : List (Int)} (h : SetAt b1 w s ob xs) (hb : b0 ≤ b1) : SetAt b0 w s ob xs := by
  obtain ⟨⟨v, h1, h2, h3⟩, h4, h5⟩ := h
  exact ⟨⟨v, h1, h2, row_baseP h3 hb⟩, h4, h5⟩
/-- a new empty set under a key that had none -/
theorem newSI {base : Nat} {w w1 : World} {b : Nat} {T : List (List UInt8 × SetE (Int))} (h : MapStSI base w b T) {k : List UInt8} {s : Nat} {ob : Option Nat} (hs : SetAt w.heap.size w1 s ob []) (hsz : w.heap.size ≤ s) (hbw : base ≤ w.heap.size) (hf : Fr (fun _ => False) w w1) :
    (∀ w2, OwnMSI w2 b (setM (kp T) k s) → Fr (fun j => j = b) w1 w2 → MapStSI base w2 b (setM T k ⟨s, ob, []⟩)) ∧ ∀ j, BlP b (setM T k ⟨s, ob, []⟩) j → BlP b T j ∨ w.heap.size ≤ j := by
  have hlt : ∀ {j}, BlP b T j → j < w.heap.size := fun hj => (blPSI_lt h hj).2
  have h' := mapStSI_fr h hf fun _ _ e => e
  obtain ⟨h1, h2, h3, h4⟩ := h'
  have hob : ∀ g, ob = some g → w.heap.size ≤ g := fun g hg => ((setLtSI hs).2 g hg).1
  refine ⟨fun w2 ho hf2 => ⟨h1, by rw [kp_set]; exact ho, fun p hp => ?_, aprT_set h4 fun p hp hpk => ?_⟩, fun j hj => ?_⟩
  · rcases mem_setM.1 hp with ⟨hp, hpk⟩ | rfl
    · obtain ⟨a1, a2, a3, a4⟩ := h3 p hp
      exact ⟨set_kept a1 (hf2.block _ (setLtSI a1).1 a3) fun g hg => hf2.block g ((setLtSI a1).2 g hg).2 (fun e => a4 (e ▸ hg)), a2, a3, a4⟩
    · have hb := hlt (.inl rfl : BlP b T b)
      refine ⟨set_kept (set_baseSI hs hbw) (hf2.block _ (setLtSI hs).1 (fun e => by have e : s = b := e; omega)) fun g hg => hf2.block g ((setLtSI hs).2 g hg).2 (by have := hob g hg; omega), Nat.le_trans hbw hsz, fun e => by have e : s = b := e; omega, fun e => ?_⟩
      have := hob b e; omega
  · have q1 := hlt (.inr ⟨p, hp, .inl rfl⟩ : BlP b T p.2.s)
    have q2 := fun g (hg : p.2.ob = some g) => hlt (.inr ⟨p, hp, .inr hg⟩ : BlP b T g)
    refine ⟨fun e => by have e : p.2.s = s := e; omega, fun e => ?_, fun e => ?_, fun g hg e => ?_⟩
    · have := q2 s e; omega
    · have := hob _ e; omega
    · have := q2 _ hg; have := hob _ e; omega
  · rcases hj with rfl | ⟨p, hp, hj⟩
    · exact .inl (.inl rfl)
    · rcases mem_setM.1 hp with ⟨hp, _⟩ | rfl
      · exact .inl (.inr ⟨p, hp, hj⟩)
      · rcases hj with rfl | hj
        · exact .inr hsz
        · exact .inr (hob j hj)
theorem lkUpSI {base : Nat} {w : World} {b : Nat} {T : List ((List UInt8) × SetE (Int))} (h : MapStSI base w b T) (k : List UInt8) : (lk T k).Pairwise (· < ·) := by
  unfold lk
  cases hl : lookM T k with
  | none => exact List.Pairwise.nil
  | some e => exact (h.2.2.1 _ (lookM_memP hl)).1.2.2
theorem mapSt_baseSI {b0 b1 : Nat} {w : World} {b : Nat} {T : List (List UInt8 × SetE (Int))} (h : MapStSI b1 w b T) (hb : b0 ≤ b1) : MapStSI b0 w b T :=
  ⟨Nat.le_trans hb h.1, h.2.1, fun p hp => ⟨set_baseSI (h.2.2.1 p hp).1 hb, Nat.le_trans hb (h.2.2.1 p hp).2.1, (h.2.2.1 p hp).2.2⟩, h.2.2.2⟩
theorem made_stSI {base : Nat} {w : World} {b : Nat} (hb : base ≤ b) (h : ∃ n, w.ownsMap Tryz.prog 9 ptrE b n (.map [] : DataW Unit) ∧ n = 0) : MapStSI base w b [] := by
  obtain ⟨n, h, rfl⟩ := h
  exact ⟨hb, ⟨⟨.map [], h, mapHas_empty _ _⟩, (fun p hp => by cases hp)⟩, (fun p hp => by cases hp), (fun p hp => by cases hp)⟩
theorem lk_noneSI {T : List (List UInt8 × SetE (Int))} {k : List UInt8} (h : lookM T k = none) : lk T k = [] := by unfold lk; rw [h]
theorem lk_someSI {T : List (List UInt8 × SetE (Int))} {k : List UInt8} {e : SetE (Int)} (h : lookM T k = some e) : lk T k = e.xs := by unfold lk; rw [h]
theorem lkHasSI {T : List ((List UInt8) × SetE (Int))} {a : List UInt8} {b : Int} (h : b ∈ lk T a) : ∃ e, lookM T a = some e ∧ e.xs = lk T a := by
  unfold lk at h ⊢
  cases hl : lookM T a with
  | none => rw [hl] at h; cases h
  | some e => exact ⟨e, rfl, rfl⟩
theorem insAll1SI (xs : List (Int)) (x : Int) : insAll xs [x] = insI xs x := rfl
theorem delAll1SI (xs : List (Int)) (x : Int) : delAll xs [x] = delI xs x := rfl
theorem insNeSI (xs : List (Int)) (x : Int) : insI xs x ≠ [] := fun e => by
  have := insI_len xs x
  rw [e] at this
  split at this
  · rename_i h; simp only [List.length_nil] at this
    have := List.eq_nil_of_length_eq_zero this.symm
    subst this; simp at h
  · simp at this
theorem neT_setSI {T : List (List UInt8 × SetE (Int))} (h : NeTSI T) {k : List UInt8} {e : SetE (Int)} (he : e.xs ≠ []) : NeTSI (setM T k e) := fun p hp => by
  rcases mem_setM.1 hp with ⟨hp, _⟩ | rfl
  · exact h p hp
  · exact he
set_option maxRecDepth 100000 in
set_option maxHeartbeats 4000000 in
theorem fillSI {base : Nat} {w : World} {b : Nat} {T : List (List UInt8 × SetE (Int))} (h : MapStSI base w b T) (hbw : base ≤ w.heap.size) {k : List UInt8} (hk : OkKSI k) (x : Int) (hT : T.length ≤ 100000) (hl : (lk T k).length ≤ 100000) :
    Calls Tryz.prog 68 #[.map (some b), .string (bs k), .int .i64 x] w fun e w' => e = .returned (.tuple #[]) ∧ PutPSI base b T k (insI (lk T k) x) w w' := by
  have hlook := mlookSI h.2.1 hk
  rw [kp_look] at hlook
  cases hlk : lookM T k with
  | none =>
    rw [hlk] at hlook
    simp only [Option.map_none] at hlook
    have HOf := Lib.hid (set_of_none w)
    have HH := Lib.hid h
    have HK := Lib.hid hk
    have hlk0 := Lib.hid hlk
    have hl0 := lk_noneSI hlk
    rw [hl0]
    have HL0 := Lib.hid hl0
    unfold kVSI at hlook
    clear hlk h hk hl0
    go_enter Tryz.func68, Tryz.ntmps68
    go_wp2_with fail
    refine HOf.out.mono ?_
    rintro e w1 ⟨⟨s, ob, rfl, hs, hsz⟩, hb1⟩
    have hf1 := Fr.of_below (X := fun _ => False) hb1
    have ho1 := ownMSI_same HH.out.2.1 (hf1.block b (ownMSI_lt HH.out.2.1) fun e => e)
    obtain ⟨w2, hput, ho2, hf2⟩ := mputSI ho1 HK.out s (by rw [kp_len]; omega)
    obtain ⟨hm, hbl⟩ := newSI (k := k) HH.out hs hsz hbw hf1
    have hm2 := hm w2 ho2 hf2
    have hlook2 := mlookSI hm2.2.1 HK.out
    rw [kp_look, lookM_set, if_pos rfl] at hlook2
    simp only [Option.map_some] at hlook2
    unfold kVSI at hput hlook2
    obtain ⟨w3, hw3⟩ : ∃ w3, w2.alloc (Obj.cells #[.int .i64 x] 3) = w3 := ⟨_, rfl⟩
    have hf3 : Fr (fun _ => False) w2 w3 := by rw [← hw3]; exact (Fr.refl _ w2).alloc _
    have hm3 := mapStSI_fr hm2 hf3 fun _ _ e => e
    have hn3 : w3.heap[w2.heap.size]? = some (.cells #[.int .i64 x] 3 (0, 0)) := by rw [← hw3]; exact heap_alloc_new w2 _
    have hz3 := blk_lt hn3
    have hmem : (k, (⟨s, ob, []⟩ : SetE (Int))) ∈ setM T k ⟨s, ob, []⟩ := mem_setM.2 (.inr rfl)
    have hset3 := (hm3.2.2.1 _ hmem).1
    have hz12 := hf2.size
    have hz01 := hf1.size
    have hlts := (setLtSI hs).1
    have hltg := (setLtSI hs).2
    have HAdd := Lib.hid (set_add hset3 (by have := hf3.size; omega) (some ⟨w2.heap.size, 0, none⟩) [x] 1 (by simp) (fun _ => ⟨_, _, rfl, hz3, by simp only []; omega, fun e => by have := (hltg _ e).2; omega, fun j hj => by
      obtain rfl : j = 0 := by simp at hj; omega
      exact blk_cell hn3 0⟩))
    have H := Lib.hid (And.intro hm3 (And.intro hbl (And.intro hf1 (And.intro hf2 hf3))))
    have HW := Lib.hid hw3
    clear hw3 hm3 hbl hf1 hf2 hf3 hm hm2 ho1 ho2 hb1 hs hn3 hz3 hset3 hmem hltg
    go_wp2_with fail
    rw [HW.out]
    refine HAdd.out.mono ?_
    rintro e w4 ⟨rfl, ob', hs4, hn4, hf4⟩
    obtain ⟨hm3, hbl, hf1, hf2, hf3⟩ := H.out
    obtain ⟨hm4, hbl4⟩ := turnSI hm3 (k := k) (e := ⟨s, ob, []⟩) (by rw [lookM_set, if_pos rfl]) hs4 hn4 hf4
    have hlen : (setM (setM T k ⟨s, ob, []⟩) k (⟨s, ob', insAll [] [x]⟩ : SetE (Int))).length ≤ T.length + 1 := by rw [setM_setM]; exact len_setP _ _ _
    have hP : PutPSI base b T k (insI [] x) w w4 := by
      refine ⟨_, hm4, fun j => ?_, fun hne => ?_, ?_, fun j hj => ?_, hlen⟩
      · rw [lk_set, lk_set]
        by_cases e : j = k
        · rw [if_pos e, if_pos e]; rfl
        · rw [if_neg e, if_neg e, if_neg e]
      · rw [setM_setM]
        exact neT_setSI hne (insNeSI [] x)
      · refine (((hf1.mono fun _ _ e => e.elim : Fr (BlP b T) w w1).trans3 hf2 fun j hj e => ?_).trans3 hf3 fun j hj e => e.elim).trans3 hf4 fun j hj e => ?_
        · subst e; exact .inl rfl
        · rcases e with rfl | e
          · omega
          · have := (hbl j (.inr ⟨_, mem_setM.2 (.inr rfl), .inr e⟩)).resolve_right (by omega)
            exact this
      · rcases hbl4 j hj with e | e
        · exact hbl j e
        · exact .inr (by have := hf3.size; omega)
    have HP := Lib.hid hP
    clear hP hm4 hbl4 hlen hm3 hbl hf1 hf2 hf3 hs4 hn4 hf4
    go_wp2_with fail
    go_end0
    exact ⟨rfl, HP.out⟩
  | some e =>
    rw [hlk] at hlook
    simp only [Option.map_some] at hlook
    rw [lk_someSI hlk] at hl ⊢
    have hmem := lookM_memP hlk
    obtain ⟨w3, hw3⟩ : ∃ w3, w.alloc (Obj.cells #[.int .i64 x] 3) = w3 := ⟨_, rfl⟩
    have hf3 : Fr (fun _ => False) w w3 := by rw [← hw3]; exact (Fr.refl _ w).alloc _
    have hm3 := mapStSI_fr h hf3 fun _ _ e => e
    have hn3 : w3.heap[w.heap.size]? = some (.cells #[.int .i64 x] 3 (0, 0)) := by rw [← hw3]; exact heap_alloc_new w _
    have hz3 := blk_lt hn3
    have hset3 := (hm3.2.2.1 _ hmem).1
    have hlts := (setLtSI (h.2.2.1 _ hmem).1).1
    have hltg := (setLtSI (h.2.2.1 _ hmem).1).2
    have HAdd := Lib.hid (set_add hset3 (by omega) (some ⟨w.heap.size, 0, none⟩) [x] 1 (by simp only [List.length_singleton]; omega) (fun _ => ⟨_, _, rfl, hz3, fun e1 => by have e1 : w.heap.size = e.s := e1; have hlts : e.s < w.heap.size := hlts; omega, fun e1 => by have := (hltg _ e1).2; omega, fun j hj => by
      obtain rfl : j = 0 := by simp at hj; omega
      exact blk_cell hn3 0⟩))
    obtain ⟨es, eob, exs⟩ := e
    have H := Lib.hid (And.intro hm3 (And.intro hlk hf3))
    have HW := Lib.hid hw3
    unfold kVSI at hlook
    clear hw3 hm3 hf3 hn3 hz3 hset3 hmem hltg hlk h hlts
    dsimp only [] at HAdd hlook hl
    dsimp only []
    go_enter Tryz.func68, Tryz.ntmps68
    go_wp2_with fail
    rw [HW.out]
    refine HAdd.out.mono ?_
    rintro e w4 ⟨rfl, ob', hs4, hn4, hf4⟩
    obtain ⟨hm3, hlk, hf3⟩ := H.out
    obtain ⟨hm4, hbl4⟩ := turnSI hm3 (k := k) (e := ⟨es, eob, exs⟩) hlk hs4 hn4 hf4
    have hmem := lookM_memP hlk
    have hP : PutPSI base b T k (insI exs x) w w4 := by
      refine ⟨_, hm4, fun j => ?_, fun hne => ?_, ?_, fun j hj => ?_, len_setP _ _ _⟩
      · rw [lk_set]; rfl
      · exact neT_setSI hne (insNeSI exs x)
      · refine (hf3.mono fun _ _ e => e.elim : Fr (BlP b T) w w3).trans3 hf4 fun j hj e => ?_
        rcases e with rfl | e
        · exact .inr ⟨_, hmem, .inl rfl⟩
        · exact .inr ⟨_, hmem, .inr e⟩
      · rcases hbl4 j hj with e | e
        · exact .inl e
        · exact .inr (by have := hf3.size; omega)
    have HP := Lib.hid hP
    clear hP hm4 hbl4 hm3 hf3 hs4 hn4 hf4 hlk hmem
    go_wp2_with fail
    go_end0
    exact ⟨rfl, HP.out⟩
theorem delStSI {base : Nat} {w w' : World} {b : Nat} {T : List (List UInt8 × SetE (Int))} (h : MapStSI base w b T) {k : List UInt8} (ho : OwnMSI w' b (delM (kp T) k)) (hf : Fr (fun j => j = b) w w') : MapStSI base w' b (delM T k) := by
  obtain ⟨h1, h2, h3, h4⟩ := h
  refine ⟨h1, by rw [kp_del]; exact ho, fun p hp => ?_, aprT_del h4 k⟩
  obtain ⟨a1, a2, a3, a4⟩ := h3 p (mem_delM.1 hp).1
  exact ⟨set_kept a1 (hf.block _ (setLtSI a1).1 a3) fun g hg => hf.block g ((setLtSI a1).2 g hg).2 (fun e => a4 (e ▸ hg)), a2, a3, a4⟩
end Go.Proofs.YtpbobonddocgkaaGreatDoor
end
section
/- Layer 11: a relation of ints and strings as it lies: New, rights, Has, Count, Len, Of, By. -/
namespace Go.Proofs.YtpbobonddocgkaaGreatDoor
open Go Go.RowKit Go.Maps Go.Lib

/-- a relation as it lies: its block, its maps, how many may be, the pairs as they came -/
structure RelStIS (base : Nat) (w : World) (t b1 b2 : Nat) (most : Int) (L : List ((Int) × (List UInt8))) (T1 : List ((Int) × SetE (List UInt8))) (T2 : List ((List UInt8) × SetE (Int))) : Prop where
  le : base ≤ t
  blk : w.heap[t]? = some (.cells #[.int .i64 most, .int .i64 L.length, .map (some b1), .map (some b2)] 134 (0, 0))
  m1 : MapStIS base w b1 T1
  m2 : MapStSI base w b2 T2
  n1 : NeTIS T1
  n2 : NeTSI T2
  ap : ∀ j, BlP b1 T1 j → ¬ BlP b2 T2 j
  t1 : ¬ BlP b1 T1 t
  t2 : ¬ BlP b2 T2 t
  h1 : ∀ a b, b ∈ lk T1 a ↔ (a, b) ∈ L
  h2 : ∀ a b, a ∈ lk T2 b ↔ (a, b) ∈ L
  nd : L.Nodup
theorem RelStIS.same {base : Nat} {w w' : World} {t b1 b2 : Nat} {most : Int} {L : List ((Int) × (List UInt8))} {T1 : List ((Int) × SetE (List UInt8))} {T2 : List ((List UInt8) × SetE (Int))} (h : RelStIS base w t b1 b2 most L T1 T2)
    (hs : ∀ j, (j = t ∨ BlP b1 T1 j ∨ BlP b2 T2 j) → w'.heap[j]? = w.heap[j]?) : RelStIS base w' t b1 b2 most L T1 T2 :=
  ⟨h.le, (hs t (.inl rfl)).trans h.blk, mapStIS_same h.m1 fun j hj => hs j (.inr (.inl hj)), mapStSI_same h.m2 fun j hj => hs j (.inr (.inr hj)), h.n1, h.n2, h.ap, h.t1, h.t2, h.h1, h.h2, h.nd⟩
theorem RelStIS.lt {base : Nat} {w : World} {t b1 b2 : Nat} {most : Int} {L : List ((Int) × (List UInt8))} {T1 : List ((Int) × SetE (List UInt8))} {T2 : List ((List UInt8) × SetE (Int))} (h : RelStIS base w t b1 b2 most L T1 T2)
    {j : Nat} (hj : j = t ∨ BlP b1 T1 j ∨ BlP b2 T2 j) : base ≤ j ∧ j < w.heap.size := by
  rcases hj with rfl | hj | hj
  · exact ⟨h.le, blk_lt h.blk⟩
  · exact blPIS_lt h.m1 hj
  · exact blPSI_lt h.m2 hj
theorem RelStIS.keys {base : Nat} {w : World} {t b1 b2 : Nat} {most : Int} {L : List ((Int) × (List UInt8))} {T1 : List ((Int) × SetE (List UInt8))} {T2 : List ((List UInt8) × SetE (Int))} (h : RelStIS base w t b1 b2 most L T1 T2) :
    T1.length ≤ L.length ∧ T2.length ≤ L.length ∧ (∀ a, (lk T1 a).length ≤ L.length) ∧ ∀ b, (lk T2 b).length ≤ L.length := by
  refine ⟨keys_le (mapStIS_nodup h.m1) h.n1 fun a b hb => (h.h1 a b).1 hb, ?_, fun a => lk_le (up_nodupS (lkUpIS h.m1 a)) fun b hb => (h.h1 a b).1 hb, fun b => ?_⟩
  · have := keys_le (L := L.map fun p => (p.2, p.1)) (mapStSI_nodup h.m2) h.n2 fun b a ha => List.mem_map.2 ⟨(a, b), (h.h2 a b).1 ha, rfl⟩
    simpa using this
  · have := lk_le (L := L.map fun p => (p.2, p.1)) (a := b) (up_nodup (lkUpSI h.m2 b)) fun a ha => List.mem_map.2 ⟨(a, b), (h.h2 a b).1 ha, rfl⟩
    simpa using this
section
variable {base : Nat} {w : World} {t b1 b2 : Nat} {most : Int} {L : List ((Int) × (List UInt8))} {T1 : List ((Int) × SetE (List UInt8))} {T2 : List ((List UInt8) × SetE (Int))}
set_option maxHeartbeats 1000000 in
theorem rightsIS (h : RelStIS base w t b1 b2 most L T1 T2) {a : Int} (ha : OkKIS a) :
    Calls Tryz.prog 85 #[.pointer (some ⟨t, 0, none⟩), .int .i64 a] w fun e w' => e = .returned (.pointer ((lookM T1 a).map fun e => ⟨e.s, 0, none⟩)) ∧ w' = w := by
  have c2 := blk_cell h.blk 2
  have hlook := mlookIS h.m1.2.1 ha
  rw [kp_look, Option.map_map] at hlook
  unfold kVIS at hlook
  obtain ⟨p, hp⟩ : ∃ p, Option.map ((fun s => (⟨s, 0, none⟩ : Addr)) ∘ fun x => x.s) (lookM T1 a) = p := ⟨_, rfl⟩
  rw [hp] at hlook
  have HP := Lib.hid hp
  clear hp h
  go_enter Tryz.func85, Tryz.ntmps85
  go_wp2_with fail
  go_ret
  exact ⟨by rw [← HP.out]; rfl, rfl⟩
theorem hasEqIS (h : RelStIS base w t b1 b2 most L T1 T2) (a : Int) (b : List UInt8) : (lk T1 a).contains b = decide ((a, b) ∈ L) := by
  rw [Bool.eq_iff_iff, List.contains_iff_mem, decide_eq_true_iff]
  exact h.h1 a b
set_option maxHeartbeats 1000000 in
theorem relHasIS (h : RelStIS base w t b1 b2 most L T1 T2) (hL : L.length ≤ 100000) {a : Int} (ha : OkKIS a) (b : List UInt8) :
    Calls Tryz.prog 65 #[.pointer (some ⟨t, 0, none⟩), .int .i64 a, .string (bs b)] w fun e w' => e = .returned (.bool (decide ((a, b) ∈ L))) ∧ ∃ q, w' = w.drewN q := by
  have hr := rightsIS h ha
  have hq := hasEqIS h a b
  have hk := (h.keys).2.2.1 a
  cases hl : lookM T1 a with
  | none =>
    rw [hl] at hr
    rw [lk_noneIS hl] at hq
    rw [← hq]
    have HS := Lib.hid (set_has_nilS b w)
    have HR := Lib.hid hr
    clear hr hq h hl
    go_enter Tryz.func65, Tryz.ntmps65
    go_wp2_with fail
    refine HR.out.mono ?_
    rintro e w1 ⟨rfl, rfl⟩
    go_wp2_with fail
    refine HS.out.mono ?_
    rintro e w2 ⟨rfl, rfl⟩
    go_wp2_with fail
    go_ret
    exact ⟨rfl, 0, rfl⟩
  | some e =>
    rw [hl] at hr
    rw [lk_someIS hl] at hq hk
    rw [← hq]
    have HS := Lib.hid (set_hasS (h.m1.2.2.1 _ (lookM_memP hl)).1 (by dsimp only []; omega) b)
    have HR := Lib.hid hr
    obtain ⟨es, eob, exs⟩ := e
    dsimp only [Option.map_some] at HR HS
    dsimp only []
    obtain ⟨d, hd⟩ : ∃ d, exs.contains b = d := ⟨_, rfl⟩
    rw [hd] at HS ⊢
    clear hr hq h hl hd
    go_enter Tryz.func65, Tryz.ntmps65
    go_wp2_with fail
    refine HR.out.mono ?_
    rintro e w1 ⟨rfl, rfl⟩
    go_wp2_with fail
    refine HS.out.mono ?_
    rintro e w2 ⟨rfl, q, rfl⟩
    go_wp2_with fail
    go_ret
    exact ⟨rfl, q, rfl⟩
set_option maxHeartbeats 1000000 in
theorem relCountIS (h : RelStIS base w t b1 b2 most L T1 T2) {a : Int} (ha : OkKIS a) :
    Calls Tryz.prog 66 #[.pointer (some ⟨t, 0, none⟩), .int .i64 a] w fun e w' => e = .returned (.int .i64 (lk T1 a).length) ∧ w' = w := by
  have hr := rightsIS h ha
  cases hl : lookM T1 a with
  | none =>
    rw [hl] at hr
    rw [lk_noneIS hl]
    have HS := Lib.hid (set_len_nilS w)
    have HR := Lib.hid hr
    clear hr h hl
    go_enter Tryz.func66, Tryz.ntmps66
    go_wp2_with fail
    refine HR.out.mono ?_
    rintro e w1 ⟨rfl, rfl⟩
    go_wp2_with fail
    refine HS.out.mono ?_
    rintro e w2 ⟨rfl, rfl⟩
    go_wp2_with fail
    go_ret
    exact ⟨rfl, rfl⟩
  | some e =>
    rw [hl] at hr
    rw [lk_someIS hl]
    have HS := Lib.hid (set_lenS (h.m1.2.2.1 _ (lookM_memP hl)).1)
    have HR := Lib.hid hr
    obtain ⟨es, eob, exs⟩ := e
    dsimp only [Option.map_some] at HR HS
    dsimp only []
    clear hr h hl
    go_enter Tryz.func66, Tryz.ntmps66
    go_wp2_with fail
    refine HR.out.mono ?_
    rintro e w1 ⟨rfl, rfl⟩
    go_wp2_with fail
    refine HS.out.mono ?_
    rintro e w2 ⟨rfl, rfl⟩
    go_wp2_with fail
    go_ret
    exact ⟨rfl, rfl⟩


set_option maxHeartbeats 1000000 in
theorem relByIS (h : RelStIS base w t b1 b2 most L T1 T2) (hL : L.length ≤ 100000) {b : List UInt8} (hb : OkKSI b) :
    Calls Tryz.prog 97 #[.pointer (some ⟨t, 0, none⟩), .string (bs b)] w (AllP (lk T2 b) w) := by
  have c3 := blk_cell h.blk 3
  have hlook := mlookSI h.m2.2.1 hb
  rw [kp_look, Option.map_map] at hlook
  unfold kVSI at hlook
  have hk := (h.keys).2.2.2 b
  have HA : Hid (Calls Tryz.prog 112 #[.pointer ((lookM T2 b).map fun e => ⟨e.s, 0, none⟩)] w (AllP (lk T2 b) w)) := by
    cases hl : lookM T2 b with
    | none => rw [lk_noneSI hl]; exact set_all_nil w
    | some e => rw [lk_someSI hl]; exact set_all (h.m2.2.2.1 _ (lookM_memP hl)).1 (by rw [lk_someSI hl] at hk; exact Nat.le_trans hk (by omega))
  obtain ⟨p, hp⟩ : ∃ p, Option.map ((fun s => (⟨s, 0, none⟩ : Addr)) ∘ fun x => x.s) (lookM T2 b) = p := ⟨_, rfl⟩
  rw [hp] at hlook
  have hp2 : (lookM T2 b).map (fun e => (⟨e.s, 0, none⟩ : Addr)) = p := hp
  rw [hp2] at HA
  clear hp hp2 h
  go_enter Tryz.func97, Tryz.ntmps97
  go_wp2_with fail
  refine HA.out.mono ?_
  intro e w2 h
  obtain ⟨⟨F, rfl, h4⟩, h5⟩ := h
  have H2 := Lib.hid (And.intro h4 h5)
  clear h4 h5
  go_wp2_with fail
  go_ret
  exact ⟨⟨_, rfl, H2.out.1⟩, H2.out.2⟩
end
end Go.Proofs.YtpbobonddocgkaaGreatDoor
end
section
/- Layer 11: a relation of ints and strings: New, Add, Remove; nil ones. -/
namespace Go.Proofs.YtpbobonddocgkaaGreatDoor
open Go Go.RowKit Go.Maps Go.Lib

/-- a relation, in words of the blocks that it has -/
def RelAtIS (base : Nat) (w : World) (t : Nat) (X : Nat → Prop) (most : Int) (L : List ((Int) × (List UInt8))) : Prop := ∃ b1 b2 T1 T2, RelStIS base w t b1 b2 most L T1 T2 ∧ ∀ j, X j ↔ (j = t ∨ BlP b1 T1 j ∨ BlP b2 T2 j)
theorem RelAtIS.same {base : Nat} {w w' : World} {t : Nat} {X : Nat → Prop} {most : Int} {L : List ((Int) × (List UInt8))} (h : RelAtIS base w t X most L) (hs : ∀ j, X j → w'.heap[j]? = w.heap[j]?) : RelAtIS base w' t X most L := by
  obtain ⟨b1, b2, T1, T2, h1, h2⟩ := h
  exact ⟨b1, b2, T1, T2, h1.same fun j hj => hs j ((h2 j).2 hj), h2⟩
theorem RelAtIS.lt {base : Nat} {w : World} {t : Nat} {X : Nat → Prop} {most : Int} {L : List ((Int) × (List UInt8))} (h : RelAtIS base w t X most L) {j : Nat} (hj : X j) : base ≤ j ∧ j < w.heap.size := by
  obtain ⟨b1, b2, T1, T2, h1, h2⟩ := h
  exact h1.lt ((h2 j).1 hj)
theorem RelAtIS.fr {base : Nat} {w w' : World} {t : Nat} {X Z : Nat → Prop} {most : Int} {L : List ((Int) × (List UInt8))} (h : RelAtIS base w t X most L) (hf : Fr Z w w') (hz : ∀ j, X j → ¬ Z j) : RelAtIS base w' t X most L := h.same fun j hj => hf.block j (h.lt hj).2 (hz j hj)
theorem RelAtIS.own {base : Nat} {w : World} {t : Nat} {X : Nat → Prop} {most : Int} {L : List ((Int) × (List UInt8))} (h : RelAtIS base w t X most L) : X t := by
  obtain ⟨b1, b2, T1, T2, h1, h2⟩ := h
  exact (h2 t).2 (.inl rfl)
theorem RelAtIS.nodup {base : Nat} {w : World} {t : Nat} {X : Nat → Prop} {most : Int} {L : List ((Int) × (List UInt8))} (h : RelAtIS base w t X most L) : L.Nodup := by
  obtain ⟨b1, b2, T1, T2, h1, h2⟩ := h
  exact h1.nd
/-- a new one -/
def NewRIS (most : Int) (w : World) (e : Ending) (w' : World) : Prop := ∃ t X, e = .returned (.tuple #[.pointer (some ⟨t, 0, none⟩), .int .i64 0]) ∧ RelAtIS w.heap.size w' t X most [] ∧ (∀ j, X j → w.heap.size ≤ j) ∧ Below w.heap.size w w'
set_option maxHeartbeats 1000000 in
theorem relNewIS {most : Int} (hm : 0 ≤ most ∧ most ≤ 100000) (w : World) : Calls Tryz.prog 49 #[.int .i64 most] w (NewRIS most w) := by
  have hmm := @run_makeMap Tryz.prog
  have p1 : decide (most < 0) = false := by simp; omega
  have p2 : decide (100000 < most) = false := by simp; omega
  have p3 : ¬ most < 0 := by omega
  have p4 : ¬ 100000 < most := by omega
  go_enter Tryz.func49, Tryz.ntmps49
  go_wp2_with fail
  go_ret2
  have z1 : (w.alloc (Obj.map #[] 0)).heap.size = w.heap.size + 1 := World.size_alloc _ _
  have z2 : ((w.alloc (Obj.map #[] 0)).alloc (Obj.map #[] 0)).heap.size = w.heap.size + 2 := by rw [World.size_alloc, World.size_alloc]
  refine ⟨w.heap.size + 2, fun j => j = w.heap.size + 2 ∨ j = w.heap.size ∨ j = w.heap.size + 1, rfl, ⟨w.heap.size, w.heap.size + 1, [], [], ⟨by omega, ?_, ?_, ?_, (fun p hp => by cases hp), (fun p hp => by cases hp), ?_, ?_, ?_, ?_, ?_, List.nodup_nil⟩, fun j => ?_⟩, fun j hj => by omega, (((Below.refl _ _).alloc (Nat.le_refl _) _).alloc (by omega) _).alloc (by omega) _⟩
  · have := heap_alloc_new ((w.alloc (Obj.map #[] 0)).alloc (Obj.map #[] 0)) (Obj.cells #[Value.int .i64 most, Value.int .i64 0, Value.map (some w.heap.size), Value.map (some (w.heap.size + 1))] 134)
    rwa [z2] at this
  · exact made_stIS (Nat.le_refl _) ⟨0, ((World.ownsMap_made w _ _ _).alloc _).alloc _, rfl⟩
  · have := ((World.ownsMap_made (P := Tryz.prog) (w.alloc (Obj.map #[] 0)) 9 ptrE).alloc (Obj.cells #[Value.int .i64 most, Value.int .i64 0, Value.map (some w.heap.size), Value.map (some (w.heap.size + 1))] 134))
    rw [z1] at this
    exact made_stSI (by omega) ⟨0, this, rfl⟩
  · rintro j (rfl | ⟨p, hp, _⟩) (h | ⟨p, hp, _⟩)
    · omega
    · cases hp
    · cases hp
    · cases hp
  · rintro (h | ⟨p, hp, _⟩)
    · omega
    · cases hp
  · rintro (h | ⟨p, hp, _⟩)
    · omega
    · cases hp
  · intro a b; simp [lk, lookM]
  · intro a b; simp [lk, lookM]
  · simp [BlP]
set_option maxHeartbeats 1000000 in
theorem relNewBadIS {most : Int} (hm : most < 0 ∨ 100000 < most) (w : World) : Calls Tryz.prog 49 #[.int .i64 most] w fun e w' => e = .returned (.tuple #[.pointer none, .int .i64 2]) ∧ w' = w := by
  by_cases h0 : most < 0
  · have p1 : decide (most < 0) = true := by simp; omega
    go_enter Tryz.func49, Tryz.ntmps49
    go_wp2_with fail
    go_ret2
    exact ⟨rfl, rfl⟩
  · have p1 : decide (most < 0) = false := by simp; omega
    have p2 : decide (100000 < most) = true := by simp; omega
    have p4 : 100000 < most := by omega
    go_enter Tryz.func49, Tryz.ntmps49
    go_wp2_with fail
    go_ret2
    exact ⟨rfl, rfl⟩
theorem insMemIS (xs : List (List UInt8)) (x y : List UInt8) : y ∈ insIS xs x ↔ y = x ∨ y ∈ xs := insI_memS xs x y
/-- a pair came: the state of it -/
theorem add_stIS {base : Nat} {w w1 w2 : World} {t b1 b2 : Nat} {most : Int} {L : List ((Int) × (List UInt8))} {T1 : List ((Int) × SetE (List UInt8))} {T2 : List ((List UInt8) × SetE (Int))} (h : RelStIS base w t b1 b2 most L T1 T2)
    {a : Int} {b : List UInt8} (hn : (a, b) ∉ L) (h1 : PutPIS base b1 T1 a (insIS (lk T1 a) b) w w1) (h2 : PutPSI base b2 T2 b (insI (lk T2 b) a) w1 w2) :
    ∃ X', RelAtIS base (w2.setCell ⟨t, 1, none⟩ (.int .i64 ((L.length : Int) + 1))) t X' most (L ++ [(a, b)]) ∧ (∀ j, X' j → (j = t ∨ BlP b1 T1 j ∨ BlP b2 T2 j) ∨ w.heap.size ≤ j) ∧ Fr (fun j => j = t ∨ BlP b1 T1 j ∨ BlP b2 T2 j) w (w2.setCell ⟨t, 1, none⟩ (.int .i64 ((L.length : Int) + 1))) := by
  obtain ⟨T1', p1, p2, p3, p4, p5, p6⟩ := h1
  obtain ⟨T2', q1, q2, q3, q4, q5, q6⟩ := h2
  have hz := p4.size
  have l1 : ∀ j, BlP b1 T1 j → j < w.heap.size := fun j hj => (blPIS_lt h.m1 hj).2
  have l2 : ∀ j, BlP b2 T2 j → j < w.heap.size := fun j hj => (blPSI_lt h.m2 hj).2
  have l1' : ∀ j, BlP b1 T1' j → j < w1.heap.size := fun j hj => (blPIS_lt p1 hj).2
  have lt := blk_lt h.blk
  have sep : ∀ j, BlP b1 T1' j → ¬ BlP b2 T2' j := fun j hj hj2 => by
    rcases p5 j hj with e | e
    · rcases q5 j hj2 with e2 | e2
      · exact h.ap j e e2
      · have := l1 j e; omega
    · rcases q5 j hj2 with e2 | e2
      · have := l2 j e2; omega
      · have := l1' j hj; omega
  have t1' : ¬ BlP b1 T1' t := fun e => by
    rcases p5 t e with e | e
    · exact h.t1 e
    · omega
  have t2' : ¬ BlP b2 T2' t := fun e => by
    rcases q5 t e with e | e
    · exact h.t2 e
    · omega
  have m1 : MapStIS base w2 b1 T1' := mapStIS_fr p1 q4 fun j hj e => by
    rcases p5 j hj with e1 | e1
    · exact h.ap j e1 e
    · have := l2 j e; omega
  have fc : Fr (fun j => j = t) w2 (w2.setCell ⟨t, 1, none⟩ (.int .i64 ((L.length : Int) + 1))) := Fr.setCell (X := fun j => j = t) (Fr.refl _ w2) _ rfl _
  have hb2 : w2.heap[t]? = some (.cells #[.int .i64 most, .int .i64 L.length, .map (some b1), .map (some b2)] 134 (0, 0)) := q4.blk (p4.blk h.blk h.t1) h.t2
  refine ⟨fun j => j = t ∨ BlP b1 T1' j ∨ BlP b2 T2' j, ⟨b1, b2, T1', T2', ⟨h.le, ?_, mapStIS_fr m1 fc fun j hj e => t1' (e ▸ hj), mapStSI_fr q1 fc fun j hj e => t2' (e ▸ hj), p3 h.n1, q3 h.n2, sep, t1', t2', fun a' b' => ?_, fun a' b' => ?_, ?_⟩, fun j => Iff.rfl⟩, fun j hj => ?_, ?_⟩
  · have := blk_set hb2 1 (.int .i64 ((L.length : Int) + 1))
    rw [this, List.length_append, List.length_singleton]
    rfl
  · rw [p2, List.mem_append, List.mem_singleton]
    by_cases e : a' = a
    · subst e
      rw [if_pos rfl, insI_memS, h.h1]
      simp [or_comm]
    · rw [if_neg e, h.h1]
      simp [e]
  · rw [q2, List.mem_append, List.mem_singleton]
    by_cases e : b' = b
    · subst e
      rw [if_pos rfl, insI_mem, h.h2]
      simp [or_comm]
    · rw [if_neg e, h.h2]
      simp [e]
  · rw [List.nodup_append]
    refine ⟨h.nd, by simp, fun x hx y hy e => ?_⟩
    rw [List.mem_singleton] at hy
    exact hn (by rw [← hy, ← e]; exact hx)
  · rcases hj with rfl | hj | hj
    · exact .inl (.inl rfl)
    · rcases p5 j hj with e | e
      · exact .inl (.inr (.inl e))
      · exact .inr e
    · rcases q5 j hj with e | e
      · exact .inl (.inr (.inr e))
      · exact .inr (by omega)
  · exact ((p4.mono fun j _ e => .inr (.inl e) : Fr (fun j => j = t ∨ BlP b1 T1 j ∨ BlP b2 T2 j) w w1).trans3 q4 fun j _ e => .inr (.inr e)).trans3 fc fun j _ e => .inl e
/-- what Add does -/
def AddRIS (base t : Nat) (X : Nat → Prop) (most : Int) (L : List ((Int) × (List UInt8))) (a : Int) (b : List UInt8) (w : World) (e : Ending) (w' : World) : Prop :=
  ∃ X', (∀ j, X' j → X j ∨ w.heap.size ≤ j) ∧ Fr X w w' ∧
    (((a, b) ∈ L ∧ e = .returned (.int .i64 6) ∧ RelAtIS base w' t X' most L) ∨
     ((a, b) ∉ L ∧ (∀ xs : List (List UInt8), xs.Pairwise (· < ·) → (∀ x, x ∈ xs ↔ (a, x) ∈ L) → most ≤ xs.length) ∧ e = .returned (.int .i64 7) ∧ RelAtIS base w' t X' most L) ∨
     ((a, b) ∉ L ∧ (∀ xs : List (List UInt8), xs.Pairwise (· < ·) → (∀ x, x ∈ xs ↔ (a, x) ∈ L) → (xs.length : Int) < most) ∧ e = .returned (.int .i64 0) ∧ RelAtIS base w' t X' most (L ++ [(a, b)])))
set_option maxRecDepth 100000 in
set_option maxHeartbeats 4000000 in
theorem relAddIS {base : Nat} {w : World} {t : Nat} {X : Nat → Prop} {most : Int} {L : List ((Int) × (List UInt8))} (h : RelAtIS base w t X most L) (hbw : base ≤ w.heap.size) (hL : L.length ≤ 90000) {a : Int} (ha : OkKIS a) {b : List UInt8} (hb : OkKSI b) :
    Calls Tryz.prog 39 #[.pointer (some ⟨t, 0, none⟩), .int .i64 a, .string (bs b)] w (AddRIS base t X most L a b w) := by
  obtain ⟨b1, b2, T1, T2, hR, hX⟩ := h
  have HH := relHasIS hR (by omega) ha b
  have hks := hR.keys
  obtain ⟨d, hd⟩ : ∃ d, decide ((a, b) ∈ L) = d := ⟨_, rfl⟩
  rw [hd] at HH
  have HHas := Lib.hid HH
  have H := Lib.hid (And.intro hR (And.intro hX hd))
  have HC : Hid (∀ V : World, V.heap = w.heap → Calls Tryz.prog 66 #[.pointer (some ⟨t, 0, none⟩), .int .i64 a] V fun e w' => e = .returned (.int .i64 (lk T1 a).length) ∧ w' = V) := fun V hV => relCountIS (hR.same fun j _ => by rw [hV] : RelStIS base V t b1 b2 most L T1 T2) ha
  have hsz := hks.2.2.1 a
  obtain ⟨n, hn⟩ : ∃ n, (lk T1 a).length = n := ⟨_, rfl⟩
  rw [hn] at HC hsz
  have HN := Lib.hid (And.intro hn hks)
  have HA := Lib.hid (And.intro ha hb)
  have c0 := blk_cell hR.blk 0
  have c1 := blk_cell hR.blk 1
  have c2 := blk_cell hR.blk 2
  have c3 := blk_cell hR.blk 3
  clear HH hR hX hd hks hn ha hb
  go_enter Tryz.func39, Tryz.ntmps39
  go_wp2_with fail
  refine HHas.out.mono ?_
  rintro e w1 ⟨rfl, q, rfl⟩
  have same : ∀ W : World, W.heap = w.heap → Fr (fun _ => False) w W → ∀ e, (((a, b) ∈ L ∧ e = .returned (.int .i64 6)) ∨ ((a, b) ∉ L ∧ (∀ xs : List (List UInt8), xs.Pairwise (· < ·) → (∀ x, x ∈ xs ↔ (a, x) ∈ L) → most ≤ xs.length) ∧ e = .returned (.int .i64 7))) → AddRIS base t X most L a b w e W := by
    intro W hW hf e he
    obtain ⟨hR, hX, hd⟩ := H.out
    have hAt : RelAtIS base W t X most L := ⟨b1, b2, T1, T2, hR.same fun _ _ => by rw [hW], hX⟩
    refine ⟨X, fun j hj => .inl hj, hf.mono fun _ _ e => e.elim, ?_⟩
    rcases he with ⟨h1, rfl⟩ | ⟨h1, h2, rfl⟩
    · exact .inl ⟨h1, rfl, hAt⟩
    · exact .inr (.inl ⟨h1, h2, rfl, hAt⟩)
  have HS := Lib.hid same
  clear same
  cases d with
  | true =>
    go_wp2_with fail
    go_ret
    exact HS.out (w.drewN q) rfl ((Fr.refl _ w).drewN q) _ (.inl ⟨by simpa using H.out.2.2, rfl⟩)
  | false =>
    have hnot : (a, b) ∉ L := by simpa using H.out.2.2
    have HNot := Lib.hid hnot
    clear hnot
    go_wp2_with fail
    obtain ⟨W1, hW1⟩ : ∃ W1, w.drewN q = W1 := ⟨_, rfl⟩
    have e0 : W1.cell? ⟨t, 0, none⟩ = some (.int .i64 most) := by rw [← hW1]; exact c0
    have e2 : W1.cell? ⟨t, 2, none⟩ = some (.map (some b1)) := by rw [← hW1]; exact c2
    have hh : W1.heap = w.heap := by rw [← hW1]; rfl
    have HH := Lib.hid (And.intro hW1 hh)
    rw [hW1]
    clear c0 c1 c2 c3 hW1 hh
    by_cases hmost : most ≤ (n : Int)
    · have q1 : decide (most ≤ (n : Int)) = true := by simp; omega
      go_quiet ((go_at_call 66; exact Calls.quiet_of_same (HC.out _ HH.out.2)))
      go_wp2_with fail
      go_ret
      refine HS.out (W1.drewN nq) HH.out.2 (by rw [← HH.out.1]; exact ((Fr.refl _ w).drewN q).drewN nq) _ (.inr ⟨HNot.out, fun xs hx1 hx2 => ?_, rfl⟩)
      have e := up_extS hx1 (lkUpIS H.out.1.m1 a) fun x => (hx2 x).trans (H.out.1.h1 a x).symm
      rw [e, HN.out.1]; exact hmost
    · have q1 : decide (most ≤ (n : Int)) = false := by simp; omega
      go_quiet ((go_at_call 66; exact Calls.quiet_of_same (HC.out _ HH.out.2)))
      obtain ⟨V, hV⟩ : ∃ V, W1.drewN nq = V := ⟨_, rfl⟩
      rw [hV]
      have v2 : V.cell? ⟨t, 2, none⟩ = some (.map (some b1)) := by rw [← hV]; exact e2
      have hVh : V.heap = w.heap := by rw [← hV]; exact HH.out.2
      have hVf : Fr (fun _ => False) w V := by rw [← hV, ← HH.out.1]; exact ((Fr.refl _ w).drewN q).drewN nq
      have hRV : RelStIS base V t b1 b2 most L T1 T2 := H.out.1.same fun _ _ => by rw [hVh]
      have hbV : base ≤ V.heap.size := by rw [hVh]; exact hbw
      have HF := Lib.hid (fillIS hRV.m1 hbV HA.out.1 b (Nat.le_trans HN.out.2.1 (by omega)) (Nat.le_trans (HN.out.2.2.2.1 a) (by omega)))
      have HV := Lib.hid (And.intro hRV (And.intro hVh (And.intro hVf hbV)))
      clear hV e0 e2 hVh hVf hRV hbV
      go_wp2_with fail
      refine HF.out.mono ?_
      rintro e w3 ⟨rfl, hP1⟩
      obtain ⟨hRV, hVh, hVf, hbV⟩ := HV.out
      obtain ⟨T1', p1, p2, p3, p4, p5, p6⟩ := id hP1
      have hb3 := p4.blk hRV.blk hRV.t1
      have c3 := blk_cell hb3 3
      have m2 : MapStSI base w3 b2 T2 := mapStSI_fr hRV.m2 p4 fun j hj e => hRV.ap j e hj
      have HF2 := Lib.hid (fillSI m2 (Nat.le_trans hbV p4.size) HA.out.2 a (Nat.le_trans HN.out.2.2.1 (by omega)) (Nat.le_trans (HN.out.2.2.2.2 b) (by omega)))
      have HP := Lib.hid (And.intro hP1 (And.intro hb3 m2))
      clear hP1 p1 p2 p3 p4 p5 p6 hb3 m2 hRV hVh hVf hbV v2
      go_wp2_with fail
      refine HF2.out.mono ?_
      rintro e w4 ⟨rfl, hP2⟩
      obtain ⟨hRV, hVh, hVf, hbV⟩ := HV.out
      obtain ⟨hP1, hb3, m2⟩ := HP.out
      obtain ⟨T2', q1', q2, q3, q4, q5, q6⟩ := id hP2
      have hb4 := q4.blk hb3 hRV.t2
      have c1 := blk_cell hb4 1
      have f1 := blk_free hb4 1
      obtain ⟨X', hat, hx', hfr⟩ := add_stIS hRV HNot.out hP1 hP2
      have hl1 : ¬ 9223372036854775807 < (L.length : Int) + 1 := by omega
      have hl2 : (L.length : Int) ≤ 100000 := by omega
      have hl3 : 0 ≤ (L.length : Int) := by omega
      have HE : Hid (AddRIS base t X most L a b w (.returned (.int .i64 0)) (w4.setCell ⟨t, 1, none⟩ (.int .i64 ((L.length : Int) + 1)))) := by
        have hX := H.out.2.1
        refine ⟨X', fun j hj => ?_, ?_, .inr (.inr ⟨HNot.out, fun xs hx1 hx2 => ?_, rfl, hat⟩)⟩
        · rcases hx' j hj with e | e
          · exact .inl ((hX j).2 e)
          · exact .inr (by rw [← hVh]; exact e)
        · exact (hVf.mono fun _ _ e => e.elim : Fr X w V).trans3 hfr fun j _ e => (hX j).2 e
        · have e := up_extS hx1 (lkUpIS H.out.1.m1 a) fun x => (hx2 x).trans (H.out.1.h1 a x).symm
          rw [e, HN.out.1]; omega
      clear hP1 hb3 m2 hP2 q1' q2 q3 q4 q5 q6 hb4 hat hx' hfr hRV hVh hVf hbV
      go_wp2_with fail
      go_ret
      exact HE.out
end Go.Proofs.YtpbobonddocgkaaGreatDoor
end
