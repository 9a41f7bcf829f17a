/- Layer 10: Remove. -/
import Derived.Test.YteiiaocohpbanaaSetE
namespace Go.Proofs.Yteiiaocohpbanaa
set_option linter.unusedVariables false
set_option linter.unusedSimpArgs false
open Go Go.RowKit Go.Lib Go.Sort Go.Shelf

/-- one thing less -/
def delI (xs : List Int) (x : Int) : List Int := if xs.contains x then xs.take (xs.countP (· < x)) ++ xs.drop (xs.countP (· < x) + 1) else xs
theorem countP_lt {xs : List Int} {x : Int} (hx : x ∈ xs) : xs.countP (· < x) < xs.length := by
  have h := List.countP_le_length (p := fun y => decide (y < x)) (l := xs)
  rcases Nat.lt_or_ge (xs.countP fun y => decide (y < x)) xs.length with h' | h'
  · exact h'
  · have := List.countP_eq_length.1 (Nat.le_antisymm h h') x hx
    simp at this
theorem delI_sub (xs : List Int) (x : Int) : (delI xs x).Sublist xs := by
  unfold delI
  split
  · conv => rhs; rw [← List.take_append_drop (xs.countP (· < x)) xs]
    exact List.Sublist.append (List.Sublist.refl _) (by rw [← List.drop_drop]; exact List.drop_sublist _ _)
  · exact List.Sublist.refl _
theorem delI_up {xs : List Int} (h : xs.Pairwise (· < ·)) (x : Int) : (delI xs x).Pairwise (· < ·) := h.sublist (delI_sub xs x)
theorem delI_len (xs : List Int) (x : Int) : (delI xs x).length = if xs.contains x then xs.length - 1 else xs.length := by
  unfold delI
  split
  · next hc =>
    have := countP_lt (xs := xs) (x := x) (by simpa using hc)
    simp; omega
  · rfl
/-- many -/
def delAll (xs ls : List Int) : List Int := ls.foldl delI xs
theorem delAll_snoc (xs ls : List Int) (x : Int) : delAll xs (ls ++ [x]) = delI (delAll xs ls) x := by simp [delAll]
theorem delAll_len (xs : List Int) : ∀ ls : List Int, (delAll xs ls).length ≤ xs.length := by
  refine snoc_ind ?_ ?_
  · simp [delAll]
  · intro l x ih
    rw [delAll_snoc]
    exact Nat.le_trans (delI_sub _ _).length_le ih

/-- behind some went -/
def RemP (base : Nat) (w : World) (s : Nat) (ob : Option Nat) (xs ls : List Int) (wr : World) : Prop :=
  ∃ ob', SetAt base wr s ob' (delAll xs ls) ∧ (∀ k, ob' = some k → k < w.heap.size → ob = some k) ∧ Fr (fun k => k = s ∨ ob = some k) w wr
set_option maxRecDepth 100000 in
set_option maxHeartbeats 4000000 in
theorem set_rem {base : Nat} {w : World} {s : Nat} {ob : Option Nat} {xs : List Int} (h : SetAt base w s ob xs) (hbw : base ≤ w.heap.size) (A : Option Addr) (ls : List Int) (c : Nat) (hl : xs.length ≤ 1000000) (hll : ls.length ≤ 1000000)
    (hc : 0 < ls.length → ∃ g o, A = some ⟨g, o, none⟩ ∧ g < w.heap.size ∧ g ≠ s ∧ ob ≠ some g ∧ ∀ j (h : j < ls.length), w.cell? ⟨g, o + j, none⟩ = some (.int .i64 ls[j])) :
    Calls Try.prog 9 #[.pointer (some ⟨s, 0, none⟩), .slice A ls.length c] w fun e w' => e = .returned (.int .i64 (xs.length - (delAll xs ls).length : Nat)) ∧ RemP base w s ob xs ls w' := by
  have hs0 : s < w.heap.size := by obtain ⟨⟨v, hv, _⟩, _⟩ := h; exact blk_lt hv
  have H0 : Hid (RemP base w s ob xs [] w) := ⟨ob, h, fun _ h _ => h, Fr.refl _ _⟩
  have HC := Lib.hid hc
  clear hc h
  go_enter Try.func9, Try.ntmps9
  go_wp2_with fail
  go_loopw [5, 14] (fun cm ct wr => ∃ k : Nat, ct = .int .i64 k ∧ k ≤ ls.length ∧ cm = .int .i64 (xs.length - (delAll xs (ls.take k)).length : Nat) ∧ Hid (RemP base w s ob xs (ls.take k) wr)) (fun _ ct _ => ls.length - (intOf ct).toNat)
  case atStart => exact ⟨0, rfl, Nat.zero_le _, by simp [delAll], by simpa using H0⟩
  case round =>
    obtain ⟨k, rfl, hk, rfl, HA⟩ := hrel
    by_cases hlt : k < ls.length
    · obtain ⟨g, o, rfl, hg, hgs, hgo, hcell⟩ := HC.out (by omega)
      obtain ⟨ob', hset, hob', hfr⟩ := HA.out
      have e0 : wr.cell? ⟨g, o + k, none⟩ = some (.int .i64 ls[k]) := (hfr.cell (p := ⟨g, o + k, none⟩) hg (by rintro (h | h); exact hgs h; exact hgo h)).trans (hcell k hlt)
      have htk : ls.take (k + 1) = ls.take k ++ [ls[k]] := List.take_succ_eq_append_getElem hlt
      obtain ⟨x, hx⟩ : ∃ x, ls[k] = x := ⟨_, rfl⟩
      rw [hx] at e0 htk
      obtain ⟨ys, hys⟩ : ∃ ys, delAll xs (ls.take k) = ys := ⟨_, rfl⟩
      have hins : delAll xs (ls.take (k + 1)) = delI ys x := by rw [htk, delAll_snoc, hys]
      have hyl := delAll_len xs (ls.take k)
      rw [hys] at hyl
      have hy1 : ys.length ≤ 1000000 := by omega
      have hy2 : xs.length - ys.length ≤ 1000000 := by omega
      rw [hys] at hset ⊢
      obtain ⟨⟨v, hv, hvo, hown⟩, hne, hup⟩ := hset
      have hbs := bsearch_own hown hy1 (up_le hup) x
      obtain ⟨av, cv, rfl⟩ := row_slice hown
      have c0 := blk_cell hv 0
      have f0 := blk_free hv 0
      obtain ⟨b, hb⟩ : ∃ b, ys.contains x = b := ⟨_, rfl⟩
      rw [hb] at hbs
      have hz := hfr.size
      have H := Lib.hid (And.intro hv (And.intro hvo (And.intro hown (And.intro hne (And.intro hup (And.intro hob' (And.intro hfr (And.intro hins (And.intro hyl hb)))))))))
      have HB := Lib.hid hbs
      clear hbs hv hvo hown hne hup hob' hfr hins hyl hb hys htk hx hcell
      go_wp2_with fail
      refine HB.out.mono ?_
      rintro e w1 ⟨rfl, q, rfl⟩
      cases b with
      | true =>
        obtain ⟨hv, hvo, hown, hne, hup, hob', hfr, hins, hyl, hb⟩ := H.out
        have hi2 : delI ys x = ys.take (ys.countP (· < x)) ++ ys.drop (ys.countP (· < x) + 1) := by unfold delI; rw [hb]; rfl
        have hlt3 : ys.countP (· < x) < ys.length := countP_lt (by simpa using hb)
        have hil : (delI ys x).length = ys.length - 1 := by rw [delI_len, hb]; rfl
        have hiu := delI_up hup x
        have hw2 : (wr.drewN q).heap = wr.heap := rfl
        have HI := Lib.hid (delete_own (base := base) (w := wr.drewN q) (own_kept hown fun g _ => by rw [hw2]) hy1 _ hlt3)
        obtain ⟨i, hi⟩ : ∃ i, ys.countP (fun y => decide (y < x)) = i := ⟨_, rfl⟩
        rw [hi] at hlt3 HI
        rw [hi]
        have H2 := Lib.hid (And.intro hil (And.intro hiu (And.intro hi2 hi)))
        clear hv hvo hown hne hup hob' hfr hins hyl hb hi2 hil hiu hw2 hi
        go_wp2_with fail
        refine HI.out.mono ?_
        rintro e w3 ⟨⟨v', rfl, ho3, ht3⟩, hf3⟩
        obtain ⟨hv, hvo, hown, hne, hup, hob', hfr, hins, hyl, hb⟩ := H.out
        obtain ⟨hil, hiu, hi2, hi⟩ := H2.out
        rw [← hi, ← hi2] at ho3
        have hf2 : Fr (fun k => k = s ∨ ob = some k) w (wr.drewN q) := hfr.drewN q
        have hsl : s < (wr.drewN q).heap.size := blk_lt hv
        have hns : ¬ vB (.slice av ys.length cv) s := fun e => hne (hvo ▸ e)
        have hv3 := hf3.blk (k := s) (o := .cells #[.slice av ys.length cv] 52 (0, 0)) hv hns
        have c3 := blk_cell hv3 0
        have f3 := blk_free hv3 0
        obtain ⟨A', c', rfl⟩ := row_slice ho3
        have hns' : (Value.slice A' (delI ys x).length c').ownBlock ≠ some s := fun e => hns (ht3 s e hsl)
        have hnew : RemP base w s ob xs (ls.take (k + 1)) (w3.setCell ⟨s, 0, none⟩ (.slice A' (delI ys x).length c')) := by
          have hf3' : Fr (fun k => k = s ∨ ob = some k) w w3 := hf2.trans2 hf3 fun k hk e => .inr (hob' k (hvo ▸ e) hk)
          refine ⟨_, ⟨⟨_, blk_set hv3 0 _, rfl, ?_⟩, hns', ?_⟩, ?_, hf3'.setCell _ (.inl rfl) _⟩
          · rw [hins]
            exact own_kept ho3 fun g hg => Below.heap_setCell _ _ _ _ fun e => by cases e; exact hns' hg
          · rw [hins]; exact hiu
          · intro k2 hk2 hl2
            have := ht3 k2 hk2 (Nat.lt_of_lt_of_le hl2 hf2.size)
            exact hob' k2 (hvo ▸ this) hl2
        have HN := Lib.hid hnew
        have hy0 : 1 ≤ ys.length := by omega
        have hlen : (delAll xs (ls.take (k + 1))).length = ys.length - 1 := by rw [hins, hil]
        have HL := Lib.hid hlen
        have hyx : ys.length ≤ xs.length := hyl
        clear hnew hlen hv hvo hown hne hup hob' hfr hins hyl hb hi2 hil hiu hf2 hi ho3 ht3 hf3 hns hns' hv3
        go_wp2_with fail
        go_roundw
        case rel => exact ⟨k + 1, by go_num, by omega, by rw [HL.out]; rw [show xs.length - (ys.length - 1) = (xs.length - ys.length) + 1 by omega]; go_num, HN⟩
        case measure => simp [intOf]; omega
      | false =>
        go_wp2_with fail
        obtain ⟨hv, hvo, hown, hne, hup, hob', hfr, hins, hyl, hb⟩ := H.out
        have hi2 : delI ys x = ys := by unfold delI; rw [hb]; rfl
        have hnew : RemP base w s ob xs (ls.take (k + 1)) (wr.drewN q) := by
          refine ⟨ob', ⟨⟨_, hv, hvo, ?_⟩, hne, ?_⟩, hob', hfr.drewN q⟩
          · rw [hins, hi2]; exact hown
          · rw [hins, hi2]; exact hup
        have HN := Lib.hid hnew
        have hlen : (delAll xs (ls.take (k + 1))).length = ys.length := by rw [hins, hi2]
        have HL := Lib.hid hlen
        clear hnew hlen hv hvo hown hne hup hob' hfr hins hyl hb hi2
        go_roundw
        case rel => exact ⟨k + 1, by go_num, by omega, by rw [HL.out], HN⟩
        case measure => simp [intOf]; omega
    · obtain rfl : k = ls.length := by omega
      rw [List.take_length] at HA ⊢
      go_wp2_with fail
      go_ret
      exact ⟨rfl, HA.out⟩
end Go.Proofs.Yteiiaocohpbanaa
