/- Layer 10: a set as it lies; Has, Len, List, Add. -/
import Derived.Test.YteiiaocohpbanaaSetD
namespace Go.Proofs.Yteiiaocohpbanaa
set_option linter.unusedVariables false
set_option linter.unusedSimpArgs false
open Go Go.RowKit Go.Lib Go.Sort Go.Shelf

/-- a set: its block, its row's block, its things -/
def SetAt (base : Nat) (w : World) (s : Nat) (ob : Option Nat) (xs : List Int) : Prop :=
  (∃ v, w.heap[s]? = some (.cells #[v] 52 (0, 0)) ∧ v.ownBlock = ob ∧ OwnI base w v xs) ∧ ob ≠ some s ∧ xs.Pairwise (· < ·)
/-- one thing more -/
def insI (xs : List Int) (x : Int) : List Int := if xs.contains x then xs else xs.take (xs.countP (· < x)) ++ x :: xs.drop (xs.countP (· < x))
theorem countP_le (xs : List Int) (x : Int) : xs.countP (· < x) ≤ xs.length := List.countP_le_length
theorem take_lt : ∀ {xs : List Int}, xs.Pairwise (· < ·) → ∀ x, (∀ y ∈ xs.take (xs.countP (· < x)), y < x) ∧ (∀ y ∈ xs.drop (xs.countP (· < x)), x ≤ y)
  | [], _, x => by simp
  | a :: xs, h, x => by
    rw [List.pairwise_cons] at h
    obtain ⟨i1, i2⟩ := take_lt h.2 x
    by_cases c : a < x
    · rw [List.countP_cons_of_pos (by simpa using c)]
      refine ⟨fun y hy => ?_, fun y hy => i2 y (by simpa using hy)⟩
      rw [List.take_succ_cons, List.mem_cons] at hy
      rcases hy with rfl | hy
      · exact c
      · exact i1 y hy
    · have hz : (a :: xs).countP (· < x) = 0 := by
        rw [List.countP_eq_zero]
        intro y hy
        rcases List.mem_cons.1 hy with rfl | hy
        · simpa using c
        · have := h.1 y hy; simp; omega
      rw [hz]
      refine ⟨by simp, fun y hy => ?_⟩
      rw [List.drop_zero] at hy
      rcases List.mem_cons.1 hy with rfl | hy
      · omega
      · have := h.1 y hy; omega
theorem insI_up {xs : List Int} (h : xs.Pairwise (· < ·)) (x : Int) : (insI xs x).Pairwise (· < ·) := by
  unfold insI
  split
  · exact h
  · next hc =>
    obtain ⟨h1, h2⟩ := take_lt h x
    have hp := h
    rw [← List.take_append_drop (xs.countP (· < x)) xs] at hp
    obtain ⟨p1, p2, p3⟩ := List.pairwise_append.1 hp
    refine List.pairwise_append.2 ⟨p1, List.pairwise_cons.2 ⟨fun y hy => ?_, p2⟩, fun y hy z hz => ?_⟩
    · have h3 := h2 y hy
      have h4 : y ≠ x := by
        rintro rfl
        exact hc (by simpa using List.mem_of_mem_drop hy)
      omega
    · rcases List.mem_cons.1 hz with rfl | hz
      · exact h1 y hy
      · exact p3 y hy z hz
theorem insI_len (xs : List Int) (x : Int) : (insI xs x).length = if xs.contains x then xs.length else xs.length + 1 := by
  unfold insI
  have := countP_le xs x
  split
  · rfl
  · simp; omega
theorem up_le {xs : List Int} (h : xs.Pairwise (· < ·)) : xs.Pairwise (· ≤ ·) := h.imp fun h => by omega
/-- many -/
def insAll (xs ls : List Int) : List Int := ls.foldl insI xs
theorem insAll_snoc (xs ls : List Int) (x : Int) : insAll xs (ls ++ [x]) = insI (insAll xs ls) x := by simp [insAll]
theorem insAll_len (xs : List Int) : ∀ ls : List Int, (insAll xs ls).length ≤ xs.length + ls.length ∧ xs.length ≤ (insAll xs ls).length := by
  refine snoc_ind ?_ ?_
  · simp [insAll]
  · intro l x ih
    rw [insAll_snoc, insI_len, List.length_append, List.length_singleton]
    split <;> omega
theorem insAll_up {xs : List Int} (h : xs.Pairwise (· < ·)) : ∀ ls : List Int, (insAll xs ls).Pairwise (· < ·) := by
  refine snoc_ind h ?_
  intro l x ih
  rw [insAll_snoc]
  exact insI_up ih x

theorem own_kept {base : Nat} {w W : World} {v : Value} {xs : List Int} (h : OwnI base w v xs) (hs : ∀ g, v.ownBlock = some g → W.heap[g]? = w.heap[g]?) : OwnI base W v xs := row_same h hs
theorem set_kept {base : Nat} {w W : World} {s : Nat} {ob : Option Nat} {xs : List Int} (h : SetAt base w s ob xs) (h1 : W.heap[s]? = w.heap[s]?) (h2 : ∀ g, ob = some g → W.heap[g]? = w.heap[g]?) : SetAt base W s ob xs := by
  obtain ⟨⟨v, a, rfl, b⟩, c, d⟩ := h
  exact ⟨⟨v, h1.trans a, rfl, own_kept b h2⟩, c, d⟩
theorem set_below {base : Nat} {w W : World} {s : Nat} {ob : Option Nat} {xs : List Int} (h : SetAt base w s ob xs) (hb : Below w.heap.size w W) : SetAt base W s ob xs := by
  obtain ⟨⟨v, a, rfl, b⟩, c, d⟩ := h
  exact ⟨⟨v, (hb.block _ (blk_lt a)).trans a, rfl, own_kept b fun g hg => hb.block g (b.lt g hg).2⟩, c, d⟩

theorem set_has_nil (x : Int) (w : World) : Calls Try.prog 17 #[.pointer none, .int .i64 x] w fun e w' => e = .returned (.bool false) ∧ w' = w := by
  go_enter Try.func17, Try.ntmps17
  go_wp2_with fail
  go_ret
  exact ⟨rfl, rfl⟩
theorem set_has {base : Nat} {w : World} {s : Nat} {ob : Option Nat} {xs : List Int} (h : SetAt base w s ob xs) (hl : xs.length ≤ 1000000) (x : Int) :
    Calls Try.prog 17 #[.pointer (some ⟨s, 0, none⟩), .int .i64 x] w fun e w' => e = .returned (.bool (xs.contains x)) ∧ ∃ q, w' = w.drewN q := by
  obtain ⟨⟨v, hv, hob, hown⟩, hne, hup⟩ := h
  obtain ⟨A, c, rfl⟩ := row_slice hown
  have c0 := blk_cell hv 0
  have hb := bsearch_own hown hl (up_le hup) x
  obtain ⟨b, hb2⟩ : ∃ b, xs.contains x = b := ⟨_, rfl⟩
  rw [hb2] at hb ⊢
  have HB := Lib.hid hb
  clear hb hv hob hown hup hb2
  go_enter Try.func17, Try.ntmps17
  go_wp2_with fail
  refine HB.out.mono ?_
  rintro e w1 ⟨rfl, q, rfl⟩
  go_wp2_with fail
  go_ret
  exact ⟨by cases b <;> rfl, q, rfl⟩
theorem set_len_nil (w : World) : Calls Try.prog 16 #[.pointer none] w fun e w' => e = .returned (.int .i64 0) ∧ w' = w := by
  go_enter Try.func16, Try.ntmps16
  go_wp2_with fail
  go_ret
  exact ⟨rfl, rfl⟩
theorem set_len {base : Nat} {w : World} {s : Nat} {ob : Option Nat} {xs : List Int} (h : SetAt base w s ob xs) :
    Calls Try.prog 16 #[.pointer (some ⟨s, 0, none⟩)] w fun e w' => e = .returned (.int .i64 xs.length) ∧ w' = w := by
  obtain ⟨⟨v, hv, hob, hown⟩, hne, hup⟩ := h
  obtain ⟨A, c, rfl⟩ := row_slice hown
  have c0 := blk_cell hv 0
  clear hv hob hown hup
  go_enter Try.func16, Try.ntmps16
  go_wp2_with fail
  go_ret
  exact ⟨rfl, rfl⟩
theorem set_list_nil (w : World) : Calls Try.prog 15 #[.pointer none] w fun e w' => e = .returned (.slice none 0 0) ∧ w' = w := by
  go_enter Try.func15, Try.ntmps15
  go_wp2_with fail
  go_ret
  exact ⟨rfl, rfl⟩
/-- a slice of numbers, handed back -/
def ListP (xs : List Int) (w : World) (e : Ending) (w' : World) : Prop := (∃ v', e = .returned v' ∧ OwnI w.heap.size w' v' xs) ∧ Below w.heap.size w w'
theorem set_list {base : Nat} {w : World} {s : Nat} {ob : Option Nat} {xs : List Int} (h : SetAt base w s ob xs) (hl : xs.length ≤ 1000000) :
    Calls Try.prog 15 #[.pointer (some ⟨s, 0, none⟩)] w (ListP xs w) := by
  obtain ⟨⟨v, hv, hob, hown⟩, hne, hup⟩ := h
  have hc := clone_own hown hl
  obtain ⟨A, c, rfl⟩ := row_slice hown
  have c0 := blk_cell hv 0
  have HC := Lib.hid hc
  clear hc hv hob hown hup
  go_enter Try.func15, Try.ntmps15
  go_wp2_with fail
  refine HC.out.mono ?_
  rintro e w1 ⟨⟨v', rfl, h1⟩, h2⟩
  obtain ⟨A', c', rfl⟩ := row_slice h1
  have H := Lib.hid (And.intro h1 h2)
  clear h1 h2
  go_wp2_with fail
  go_ret
  exact ⟨⟨_, rfl, H.out.1⟩, H.out.2⟩

/-- behind some came in -/
def AddP (base : Nat) (w : World) (s : Nat) (ob : Option Nat) (xs ls : List Int) (wr : World) : Prop :=
  ∃ ob', SetAt base wr s ob' (insAll xs ls) ∧ (∀ k, ob' = some k → k < w.heap.size → ob = some k) ∧ Fr (fun k => k = s ∨ ob = some k) w wr
set_option maxRecDepth 100000 in
set_option maxHeartbeats 4000000 in
theorem set_add {base : Nat} {w : World} {s : Nat} {ob : Option Nat} {xs : List Int} (h : SetAt base w s ob xs) (hbw : base ≤ w.heap.size) (A : Option Addr) (ls : List Int) (c : Nat) (hl : xs.length + ls.length ≤ 1000000)
    (hc : 0 < ls.length → ∃ g o, A = some ⟨g, o, none⟩ ∧ g < w.heap.size ∧ g ≠ s ∧ ob ≠ some g ∧ ∀ j (h : j < ls.length), w.cell? ⟨g, o + j, none⟩ = some (.int .i64 ls[j])) :
    Calls Try.prog 11 #[.pointer (some ⟨s, 0, none⟩), .slice A ls.length c] w fun e w' => e = .returned (.int .i64 ((insAll xs ls).length - xs.length : Nat)) ∧ AddP base w s ob xs ls w' := by
  have hs0 : s < w.heap.size := by obtain ⟨⟨v, hv, _⟩, _⟩ := h; exact blk_lt hv
  have H0 : Hid (AddP base w s ob xs [] w) := ⟨ob, h, fun _ h _ => h, Fr.refl _ _⟩
  have HC := Lib.hid hc
  clear hc h
  go_enter Try.func11, Try.ntmps11
  go_wp2_with fail
  go_loopw [5, 14] (fun cm ct wr => ∃ k : Nat, ct = .int .i64 k ∧ k ≤ ls.length ∧ cm = .int .i64 ((insAll xs (ls.take k)).length - xs.length : Nat) ∧ Hid (AddP base w s ob xs (ls.take k) wr)) (fun _ ct _ => ls.length - (intOf ct).toNat)
  case atStart => exact ⟨0, rfl, Nat.zero_le _, by simp [insAll], by simpa using H0⟩
  case round =>
    obtain ⟨k, rfl, hk, rfl, HA⟩ := hrel
    by_cases hlt : k < ls.length
    · obtain ⟨g, o, rfl, hg, hgs, hgo, hcell⟩ := HC.out (by omega)
      obtain ⟨ob', hset, hob', hfr⟩ := HA.out
      have e0 : wr.cell? ⟨g, o + k, none⟩ = some (.int .i64 ls[k]) := (hfr.cell (p := ⟨g, o + k, none⟩) hg (by rintro (h | h); exact hgs h; exact hgo h)).trans (hcell k hlt)
      have htk : ls.take (k + 1) = ls.take k ++ [ls[k]] := List.take_succ_eq_append_getElem hlt
      obtain ⟨x, hx⟩ : ∃ x, ls[k] = x := ⟨_, rfl⟩
      rw [hx] at e0 htk
      obtain ⟨ys, hys⟩ : ∃ ys, insAll xs (ls.take k) = ys := ⟨_, rfl⟩
      have hins : insAll xs (ls.take (k + 1)) = insI ys x := by rw [htk, insAll_snoc, hys]
      have hyl := insAll_len xs (ls.take k)
      rw [List.length_take, hys] at hyl
      have hy1 : ys.length ≤ 1000000 := by omega
      have hy2 : ys.length - xs.length ≤ 1000000 := by omega
      rw [hys] at hset ⊢
      obtain ⟨⟨v, hv, hvo, hown⟩, hne, hup⟩ := hset
      have hbs := bsearch_own hown hy1 (up_le hup) x
      obtain ⟨av, cv, rfl⟩ := row_slice hown
      have c0 := blk_cell hv 0
      have f0 := blk_free hv 0
      obtain ⟨b, hb⟩ : ∃ b, ys.contains x = b := ⟨_, rfl⟩
      rw [hb] at hbs
      have hz := hfr.size
      have H := Lib.hid (And.intro hv (And.intro hvo (And.intro hown (And.intro hne (And.intro hup (And.intro hob' (And.intro hfr (And.intro hins (And.intro hyl hb)))))))))
      have HB := Lib.hid hbs
      clear hbs hv hvo hown hne hup hob' hfr hins hyl hb hys htk hx hcell
      go_wp2_with fail
      refine HB.out.mono ?_
      rintro e w1 ⟨rfl, q, rfl⟩
      cases b with
      | true =>
        go_wp2_with fail
        obtain ⟨hv, hvo, hown, hne, hup, hob', hfr, hins, hyl, hb⟩ := H.out
        have hi2 : insI ys x = ys := by unfold insI; rw [if_pos hb]
        have hnew : AddP base w s ob xs (ls.take (k + 1)) (wr.drewN q) := by
          refine ⟨ob', ⟨⟨_, hv, hvo, ?_⟩, hne, ?_⟩, hob', hfr.drewN q⟩
          · rw [hins, hi2]; exact hown
          · rw [hins, hi2]; exact hup
        have HN := Lib.hid hnew
        have hlen : (insAll xs (ls.take (k + 1))).length = ys.length := by rw [hins, hi2]
        have HL := Lib.hid hlen
        clear hnew hlen hv hvo hown hne hup hob' hfr hins hyl hb hi2
        go_roundw
        case rel => exact ⟨k + 1, by go_num, by omega, by rw [HL.out], HN⟩
        case measure => simp [intOf]; omega
      | false =>
        go_wp2_with fail
        obtain ⟨hv, hvo, hown, hne, hup, hob', hfr, hins, hyl, hb⟩ := H.out
        have hi2 : insI ys x = ys.take (ys.countP (· < x)) ++ x :: ys.drop (ys.countP (· < x)) := by unfold insI; rw [hb]; rfl
        have hil : (insI ys x).length = ys.length + 1 := by rw [insI_len, hb]; rfl
        have hiu := insI_up hup x
        obtain ⟨W2, hW2⟩ : ∃ W2, (wr.drewN q).alloc (Obj.cells #[Value.int IntKind.i64 x] 3) = W2 := ⟨_, rfl⟩
        have hsz : (wr.drewN q).heap.size = wr.heap.size := rfl
        have hf2 : Fr (fun k => k = s ∨ ob = some k) w W2 := by rw [← hW2]; exact (hfr.drewN q).alloc _
        have hv2 : W2.heap[s]? = some (.cells #[.slice av ys.length cv] 52 (0, 0)) := by rw [← hW2]; exact blk_alloc (by exact hv) _
        have hn2 : W2.heap[wr.heap.size]? = some (.cells #[.int .i64 x] 3 (0, 0)) := by rw [← hW2, ← hsz]; exact heap_alloc_new _ _
        have hbel : Below wr.heap.size wr W2 := by rw [← hW2]; exact Below.alloc (⟨rfl, rfl, rfl, Nat.le_refl _, fun _ _ => rfl⟩ : Below wr.heap.size wr (wr.drewN q)) (Nat.le_refl _) _
        have ho2 : OwnI base W2 (.slice av ys.length cv) ys := own_kept hown fun g hg => hbel.block g (hown.lt g hg).2
        have hlt2 : ob' ≠ some wr.heap.size := fun e => by have := (hown.lt wr.heap.size (by rw [hvo, e])).2; omega
        have hsl := blk_lt hv2
        have hb2 : base ≤ W2.heap.size := by have := hf2.size; omega
        have HI := Lib.hid (insert_own ho2 hy1 _ (countP_le ys x) x _ hn2 (by rw [hvo]; exact hlt2) hb2)
        rw [hW2]
        have H2 := Lib.hid (And.intro hf2 (And.intro hv2 (And.intro hil (And.intro hiu hi2))))
        clear hW2 hf2 hv2 hn2 hbel ho2 hlt2 hb2 hv hvo hown hne hup hob' hfr hins hyl hb hi2 hil hiu hsz c0 f0
        refine HI.out.mono ?_
        rintro e w3 ⟨⟨v', rfl, ho3, ht3⟩, hf3⟩
        obtain ⟨hv, hvo, hown, hne, hup, hob', hfr, hins, hyl, hb⟩ := H.out
        obtain ⟨hf2, hv2, hil, hiu, hi2⟩ := H2.out
        rw [← hi2] at ho3
        have hns : ¬ vB (.slice av ys.length cv) s := fun e => hne (hvo ▸ e)
        have hv3 := hf3.blk hv2 hns
        have c3 := blk_cell hv3 0
        have f3 := blk_free hv3 0
        obtain ⟨A', c', rfl⟩ := row_slice ho3
        have hns' : (Value.slice A' (insI ys x).length c').ownBlock ≠ some s := fun e => hns (ht3 s e hsl)
        have hnew : AddP base w s ob xs (ls.take (k + 1)) (w3.setCell ⟨s, 0, none⟩ (.slice A' (insI ys x).length c')) := by
          have hf3' : Fr (fun k => k = s ∨ ob = some k) w w3 := hf2.trans2 hf3 fun k hk e => .inr (hob' k (hvo ▸ e) hk)
          refine ⟨_, ⟨⟨_, blk_set hv3 0 _, rfl, ?_⟩, hns', ?_⟩, ?_, hf3'.setCell _ (.inl rfl) _⟩
          · rw [hins]
            exact own_kept ho3 fun g hg => Below.heap_setCell _ _ _ _ fun e => by cases e; exact hns' hg
          · rw [hins]; exact hiu
          · intro k2 hk2 hl2
            have := ht3 k2 hk2 (Nat.lt_of_lt_of_le hl2 hf2.size)
            exact hob' k2 (hvo ▸ this) hl2
        have HN := Lib.hid hnew
        have hlen : (insAll xs (ls.take (k + 1))).length = ys.length + 1 := by rw [hins, hil]
        have HL := Lib.hid hlen
        have hyx : xs.length ≤ ys.length := hyl.2
        clear hnew hlen hv hvo hown hne hup hob' hfr hins hyl hb hi2 hil hiu hf2 hv2 ho3 ht3 hf3 hns hns' hv3
        go_wp2_with fail
        go_roundw
        case rel => exact ⟨k + 1, by go_num, by omega, by rw [HL.out]; rw [show ys.length + 1 - xs.length = (ys.length - xs.length) + 1 by omega]; go_num, HN⟩
        case measure => simp [intOf]; omega
    · obtain rfl : k = ls.length := by omega
      rw [List.take_length] at HA ⊢
      go_wp2_with fail
      go_ret
      exact ⟨rfl, HA.out⟩
end Go.Proofs.Yteiiaocohpbanaa
