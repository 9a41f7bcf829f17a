/- Mathematics: a map as the list of its entries, as they came last. -/
import Derived.Maps.OwnSet
import Derived.Maps.Ext
import Derived.Test.YtfdaeajafmcjcaaBase
namespace Go.Proofs.Ytfdaeajafmcjcaa
open Go Go.Maps

section
variable {H α β : Type} [DecidableEq α]
/-- k has v now; it stands last -/
def setM (T : List (α × β)) (k : α) (v : β) : List (α × β) := T.filter (fun p => decide (p.1 ≠ k)) ++ [(k, v)]
/-- k has nothing now -/
def delM (T : List (α × β)) (k : α) : List (α × β) := T.filter (fun p => decide (p.1 ≠ k))
def lookM (T : List (α × β)) (k : α) : Option β := (T.find? fun p => decide (p.1 = k)).map (·.2)
/-- D reads as the entries T, no key twice -/
structure MapHas (ek : α → Lit) (ev : β → DataW H) (D : DataW H) (T : List (α × β)) : Prop where
  nodup : (T.map (·.1)).Nodup
  at_ : ∀ p ∈ T, has D (ek p.1) = true ∧ ∀ z, D.atKey (ek p.1) z = ev p.2
  only : ∀ kl, has D kl = true → ∃ p ∈ T, ek p.1 = kl
  size : Maps.size D = T.length
theorem nodup_delM {T : List (α × β)} (h : (T.map (·.1)).Nodup) (k : α) : ((delM T k).map (·.1)).Nodup := h.sublist ((List.filter_sublist).map _)
theorem nodup_setM {T : List (α × β)} (h : (T.map (·.1)).Nodup) (k : α) (v : β) : ((setM T k v).map (·.1)).Nodup := by
  unfold setM
  rw [List.map_append, List.nodup_append]
  refine ⟨nodup_delM h k, by simp, fun a ha b hb => ?_⟩
  simp only [List.mem_map, List.mem_filter, decide_eq_true_eq] at ha
  obtain ⟨p, ⟨_, hp⟩, rfl⟩ := ha
  simp at hb
  rw [hb]; exact hp
theorem len_delM {T : List (α × β)} (h : (T.map (·.1)).Nodup) (k : α) : (delM T k).length + (if (T.any fun p => decide (p.1 = k)) then 1 else 0) = T.length := by
  induction T with
  | nil => rfl
  | cons a r ih =>
    rw [List.map_cons, List.nodup_cons] at h
    have ih := ih h.2
    unfold delM at *
    by_cases e : a.1 = k
    · subst e
      have hr : (r.any fun p => decide (p.1 = a.1)) = false := by
        rw [List.any_eq_false]
        intro p hp
        simp
        exact fun e => h.1 (e ▸ List.mem_map_of_mem hp)
      rw [hr] at ih
      simp at ih ⊢
      simpa using ih
    · rw [List.filter_cons_of_pos (by simpa using e), List.any_cons, List.length_cons, List.length_cons]
      simp only [e, decide_false, Bool.false_or]
      omega
omit [DecidableEq α] in
theorem mapHas_empty (ek : α → Lit) (ev : β → DataW H) : MapHas ek ev (.map [] : DataW H) [] := ⟨by simp, by simp, fun kl h => by simp [has] at h, rfl⟩
theorem MapHas.has_iff {ek : α → Lit} {ev : β → DataW H} {D : DataW H} {T : List (α × β)} (h : MapHas ek ev D T) (hi : ∀ a b, ek a = ek b → a = b) (k : α) : has D (ek k) = T.any fun p => decide (p.1 = k) := by
  cases hb : T.any fun p => decide (p.1 = k) with
  | true =>
    rw [List.any_eq_true] at hb
    obtain ⟨p, hp, e⟩ := hb
    simp at e
    rw [← e]; exact (h.at_ p hp).1
  | false =>
    cases hh : has D (ek k) with
    | false => rfl
    | true =>
      obtain ⟨p, hp, e⟩ := h.only _ hh
      rw [List.any_eq_false] at hb
      have := hb p hp
      simp [hi _ _ e] at this
theorem MapHas.put {ek : α → Lit} {ev : β → DataW H} {D : DataW H} {T : List (α × β)} (h : MapHas ek ev D T) (hi : ∀ a b, ek a = ek b → a = b) (ht : Tidy D) (k : α) (hk : WideAt.IsKeyLit (ek k)) (v : β) : MapHas ek ev (D.put (ek k) (ev v)) (setM T k v) := by
  refine ⟨nodup_setM h.nodup k v, fun p hp => ?_, fun kl hl => ?_, ?_⟩
  · unfold setM at hp
    rw [List.mem_append] at hp
    rcases hp with hp | hp
    · simp only [List.mem_filter, decide_eq_true_eq] at hp
      have hne : ek p.1 ≠ ek k := fun e => hp.2 (hi _ _ e)
      obtain ⟨q1, q2⟩ := h.at_ p hp.1
      exact ⟨by rw [has_put_other hne]; exact q1, fun z => by rw [atKey_put_other hne]; exact q2 z⟩
    · simp at hp
      subst hp
      exact ⟨has_put_same ht.isMap hk _, fun z => atKey_put_same ht.isMap hk _ _⟩
  · by_cases e : kl = ek k
    · exact ⟨(k, v), by simp [setM], e.symm⟩
    · rw [has_put_other e] at hl
      obtain ⟨p, hp, e2⟩ := h.only kl hl
      refine ⟨p, ?_, e2⟩
      unfold setM
      rw [List.mem_append, List.mem_filter]
      exact .inl ⟨hp, by simp; exact fun e3 => e (by rw [← e2, e3])⟩
  · rw [size_put ht, h.has_iff hi, h.size]
    have := len_delM h.nodup k
    unfold setM
    rw [List.length_append, List.length_singleton]
    unfold delM at this
    split
    · rename_i e; rw [if_pos e] at this; omega
    · rename_i e; rw [if_neg e] at this; omega
theorem MapHas.del {ek : α → Lit} {ev : β → DataW H} {D : DataW H} {T : List (α × β)} (h : MapHas ek ev D T) (hi : ∀ a b, ek a = ek b → a = b) (ht : Tidy D) (k : α) : MapHas ek ev (D.del (ek k)) (delM T k) := by
  refine ⟨nodup_delM h.nodup k, fun p hp => ?_, fun kl hl => ?_, ?_⟩
  · simp only [delM, List.mem_filter, decide_eq_true_eq] at hp
    have hne : ek p.1 ≠ ek k := fun e => hp.2 (hi _ _ e)
    obtain ⟨q1, q2⟩ := h.at_ p hp.1
    exact ⟨by rw [has_del_other hne]; exact q1, fun z => by rw [atKey_del_other hne]; exact q2 z⟩
  · by_cases e : kl = ek k
    · subst e; rw [has_del_same] at hl; cases hl
    · rw [has_del_other e] at hl
      obtain ⟨p, hp, e2⟩ := h.only kl hl
      refine ⟨p, ?_, e2⟩
      rw [delM, List.mem_filter]
      exact ⟨hp, by simp; exact fun e3 => e (by rw [← e2, e3])⟩
  · have h1 := size_del (k := ek k) ht
    rw [h.has_iff hi, h.size] at h1
    have := len_delM h.nodup k
    omega
theorem MapHas.look {ek : α → Lit} {ev : β → DataW H} {D : DataW H} {T : List (α × β)} (h : MapHas ek ev D T) (hi : ∀ a b, ek a = ek b → a = b) (k : α) (z : DataW H) : D.atKey (ek k) z = match lookM T k with | some v => ev v | none => z := by
  unfold lookM
  cases hf : T.find? fun p => decide (p.1 = k) with
  | none =>
    rw [List.find?_eq_none] at hf
    refine atKey_of_not_has ?_ z
    rw [h.has_iff hi, List.any_eq_false]
    exact hf
  | some p =>
    have h1 := List.mem_of_find?_eq_some hf
    have h2 := List.find?_some hf
    simp at h2
    rw [← h2]
    exact (h.at_ p h1).2 z
theorem MapHas.has_look {ek : α → Lit} {ev : β → DataW H} {D : DataW H} {T : List (α × β)} (h : MapHas ek ev D T) (hi : ∀ a b, ek a = ek b → a = b) (k : α) : has D (ek k) = (lookM T k).isSome := by
  rw [h.has_iff hi]
  unfold lookM
  cases hf : T.find? fun p => decide (p.1 = k) with
  | none =>
    rw [List.find?_eq_none] at hf
    rw [List.any_eq_false.2 hf]; rfl
  | some p =>
    rw [List.any_eq_true.2 ⟨p, List.mem_of_find?_eq_some hf, List.find?_some hf⟩]; rfl
/-- what of T has come, and what is left -/
def CameM (ek : α → Lit) (T pre : List (α × β)) (left : Lit → Bool) : Prop := ∃ r, (pre ++ r).Perm T ∧ ∀ k, left (ek k) = r.any fun p => decide (p.1 = k)
theorem came_start {ek : α → Lit} {ev : β → DataW H} {D : DataW H} {T : List (α × β)} (h : MapHas ek ev D T) (hi : ∀ a b, ek a = ek b → a = b) : CameM ek T [] (has D) := ⟨T, by simp, fun k => h.has_iff hi k⟩
theorem came_step {ek : α → Lit} {ev : β → DataW H} {D : DataW H} {T pre : List (α × β)} {left : Lit → Bool} (h : MapHas ek ev D T) (hi : ∀ a b, ek a = ek b → a = b) (hv : ∀ a b, ev a = ev b → a = b) (hc : CameM ek T pre left) {k : α} {v : β} (hk : WideAt.IsKeyLit (ek k)) (hl : left (ek k) = true)
    (hat : ∀ z, D.atKey (ek k) z = ev v) : ∃ r, (pre ++ (k, v) :: r).Perm T ∧ CameM ek T (pre ++ [(k, v)]) (fun z => left z && !z.sameKey (ek k)) := by
  obtain ⟨r, hp, hr⟩ := hc
  have h1 := hr k
  rw [hl] at h1
  obtain ⟨p, hpm, e⟩ := List.any_eq_true.1 h1.symm
  simp at e
  have hpT : p ∈ T := hp.mem_iff.1 (List.mem_append_right _ hpm)
  have h2 := (h.at_ p hpT).2 (.map [])
  rw [e, hat] at h2
  have hpe : p = (k, v) := by rw [← e, hv _ _ h2]
  subst hpe
  obtain ⟨r1, r2, rfl⟩ := List.append_of_mem hpm
  have hp2 : (pre ++ (k, v) :: (r1 ++ r2)).Perm T := by
    refine List.Perm.trans ?_ hp
    refine List.Perm.append_left pre ?_
    exact (List.perm_middle).symm
  refine ⟨r1 ++ r2, hp2, r1 ++ r2, by simpa using hp2, fun k2 => ?_⟩
  have hnd : ((pre ++ (k, v) :: (r1 ++ r2)).map (·.1)).Nodup := (hp2.map _).nodup_iff.2 h.nodup
  rw [List.map_append, List.nodup_append] at hnd
  have hn2 := hnd.2.1
  rw [List.map_cons, List.nodup_cons] at hn2
  show (left (ek k2) && !(ek k2).sameKey (ek k)) = _
  rw [hr k2]
  by_cases e2 : k2 = k
  · subst e2
    rw [WideAt.sameKey_self hk]
    simp only [Bool.not_true, Bool.and_false]
    symm
    rw [List.any_eq_false]
    intro q hq
    simp
    exact fun e3 => hn2.1 (List.mem_map.2 ⟨q, hq, e3⟩)
  · have : (ek k2).sameKey (ek k) = false := sameKey_ne fun e3 => e2 (hi _ _ e3)
    rw [this]
    have e3 : ¬ k = k2 := fun e => e2 e.symm
    simp [e3]
theorem came_end {ek : α → Lit} {T pre : List (α × β)} {left : Lit → Bool} (hc : CameM ek T pre left) (hl : ∀ kl, left kl = false) : pre.Perm T := by
  obtain ⟨r, hp, hr⟩ := hc
  have : r = [] := by
    cases r with
    | nil => rfl
    | cons a r =>
      have := hr a.1
      rw [hl] at this
      simp at this
  subst this
  simpa using hp
end
end Go.Proofs.Ytfdaeajafmcjcaa
