/- Texts of this proof, one behind the other. -/
import Derived.Test.YtpbobonddocgkaaGreatDoorCoreOnceG4
import Derived.Test.YtpbobonddocgkaaGreatDoorCoreOnceG2
import Derived.Sort.LoopGhostIn
import Derived.Test.YtpbobonddocgkaaGreatDoorCoreOnceG3
import Derived.Test.YtpbobonddocgkaaGreatDoorCoreOnceG1
set_option linter.unusedVariables false
set_option linter.unusedSimpArgs false
section
/- Sets of texts: a set as it lies; Has, Len, List, Add. -/
namespace Go.Proofs.YtpbobonddocgkaaGreatDoor
open Go Go.RowKit Go.Lib Go.Sort Go.Shelf

/-- a set: its block, its row's block, its things -/
def SetAtS (base : Nat) (w : World) (s : Nat) (ob : Option Nat) (xs : List (List UInt8)) : Prop :=
  (∃ v, w.heap[s]? = some (.cells #[v] 170 (0, 0)) ∧ v.ownBlock = ob ∧ OwnT base w v xs) ∧ ob ≠ some s ∧ xs.Pairwise (· < ·)
/-- one thing more -/
def insIS (xs : List (List UInt8)) (x : List UInt8) : List (List UInt8) := if xs.contains x then xs else xs.take (xs.countP (· < x)) ++ x :: xs.drop (xs.countP (· < x))
theorem countP_leS (xs : List (List UInt8)) (x : List UInt8) : xs.countP (· < x) ≤ xs.length := List.countP_le_length
theorem take_ltS {xs : List (List UInt8)} (hp : xs.Pairwise (· < ·)) (x : List UInt8) : (∀ y ∈ xs.take (xs.countP (· < x)), y < x) ∧ (∀ y ∈ xs.drop (xs.countP (· < x)), ¬ y < x) := by
  refine ⟨fun y hy => ?_, fun y hy hlt => ?_⟩
  · obtain ⟨t, ht, rfl⟩ := List.getElem_of_mem hy
    rw [List.getElem_take]
    rw [List.length_take] at ht
    exact (count_split hp x t (by omega)).2 (by omega)
  · obtain ⟨t, ht, rfl⟩ := List.getElem_of_mem hy
    rw [List.getElem_drop] at hlt
    rw [List.length_drop] at ht
    have := (count_split hp x (xs.countP (· < x) + t) (by omega)).1 hlt
    omega
theorem insI_upS {xs : List (List UInt8)} (h : xs.Pairwise (· < ·)) (x : List UInt8) : (insIS xs x).Pairwise (· < ·) := by
  unfold insIS
  split
  · exact h
  · next hc =>
    obtain ⟨h1, h2⟩ := take_ltS h x
    have hp := h
    rw [← List.take_append_drop (xs.countP (· < x)) xs] at hp
    obtain ⟨p1, p2, p3⟩ := List.pairwise_append.1 hp
    refine List.pairwise_append.2 ⟨p1, List.pairwise_cons.2 ⟨fun y hy => ?_, p2⟩, fun y hy z hz => ?_⟩
    · have h3 := h2 y hy
      have h4 : y ≠ x := by
        rintro rfl
        exact hc (by simpa using List.mem_of_mem_drop hy)
      rcases ttri x y with h | h | h
      · exact h
      · exact absurd h.symm h4
      · exact absurd h h3
    · rcases List.mem_cons.1 hz with rfl | hz
      · exact h1 y hy
      · exact p3 y hy z hz
theorem insI_lenS (xs : List (List UInt8)) (x : List UInt8) : (insIS xs x).length = if xs.contains x then xs.length else xs.length + 1 := by
  unfold insIS
  have := countP_leS xs x
  split
  · rfl
  · simp; omega
/-- many -/
def insAllS (xs ls : List (List UInt8)) : List (List UInt8) := ls.foldl insIS xs
theorem insAll_snocS (xs ls : List (List UInt8)) (x : List UInt8) : insAllS xs (ls ++ [x]) = insIS (insAllS xs ls) x := by simp [insAllS]
theorem insAll_lenS (xs : List (List UInt8)) : ∀ ls : List (List UInt8), (insAllS xs ls).length ≤ xs.length + ls.length ∧ xs.length ≤ (insAllS xs ls).length := by
  refine snoc_ind ?_ ?_
  · simp [insAllS]
  · intro l x ih
    rw [insAll_snocS, insI_lenS, List.length_append, List.length_singleton]
    split <;> omega
theorem insAll_upS {xs : List (List UInt8)} (h : xs.Pairwise (· < ·)) : ∀ ls : List (List UInt8), (insAllS xs ls).Pairwise (· < ·) := by
  refine snoc_ind h ?_
  intro l x ih
  rw [insAll_snocS]
  exact insI_upS ih x

theorem own_keptS {base : Nat} {w W : World} {v : Value} {xs : List (List UInt8)} (h : OwnT base w v xs) (hs : ∀ g, v.ownBlock = some g → W.heap[g]? = w.heap[g]?) : OwnT base W v xs := row_same h hs
theorem set_keptS {base : Nat} {w W : World} {s : Nat} {ob : Option Nat} {xs : List (List UInt8)} (h : SetAtS base w s ob xs) (h1 : W.heap[s]? = w.heap[s]?) (h2 : ∀ g, ob = some g → W.heap[g]? = w.heap[g]?) : SetAtS base W s ob xs := by
  obtain ⟨⟨v, a, rfl, b⟩, c, d⟩ := h
  exact ⟨⟨v, h1.trans a, rfl, own_keptS b h2⟩, c, d⟩
theorem set_belowS {base : Nat} {w W : World} {s : Nat} {ob : Option Nat} {xs : List (List UInt8)} (h : SetAtS base w s ob xs) (hb : Below w.heap.size w W) : SetAtS base W s ob xs := by
  obtain ⟨⟨v, a, rfl, b⟩, c, d⟩ := h
  exact ⟨⟨v, (hb.block _ (blk_lt a)).trans a, rfl, own_keptS b fun g hg => hb.block g (b.lt g hg).2⟩, c, d⟩

theorem set_has_nilS (x : List UInt8) (w : World) : Calls Tryz.prog 86 #[.pointer none, encT x] w fun e w' => e = .returned (.bool false) ∧ w' = w := by
  go_enter Tryz.func86, Tryz.ntmps86
  go_wp2_with fail
  go_ret
  exact ⟨rfl, rfl⟩
theorem set_hasS {base : Nat} {w : World} {s : Nat} {ob : Option Nat} {xs : List (List UInt8)} (h : SetAtS base w s ob xs) (hl : xs.length ≤ 1000000) (x : List UInt8) :
    Calls Tryz.prog 86 #[.pointer (some ⟨s, 0, none⟩), encT x] w fun e w' => e = .returned (.bool (xs.contains x)) ∧ ∃ q, w' = w.drewN q := by
  obtain ⟨⟨v, hv, hob, hown⟩, hne, hup⟩ := h
  obtain ⟨A, c, rfl⟩ := row_slice hown
  have c0 := blk_cell hv 0
  have hb := bsearch_ownS hown hl hup x
  obtain ⟨b, hb2⟩ : ∃ b, xs.contains x = b := ⟨_, rfl⟩
  rw [hb2] at hb ⊢
  have HB := Lib.hid hb
  clear hb hv hob hown hup hb2
  go_enter Tryz.func86, Tryz.ntmps86
  go_wp2_with fail
  refine HB.out.mono ?_
  rintro e w1 ⟨rfl, q, rfl⟩
  go_wp2_with fail
  go_ret
  exact ⟨by cases b <;> rfl, q, rfl⟩
theorem set_len_nilS (w : World) : Calls Tryz.prog 87 #[.pointer none] w fun e w' => e = .returned (.int .i64 0) ∧ w' = w := by
  go_enter Tryz.func87, Tryz.ntmps87
  go_wp2_with fail
  go_ret
  exact ⟨rfl, rfl⟩
theorem set_lenS {base : Nat} {w : World} {s : Nat} {ob : Option Nat} {xs : List (List UInt8)} (h : SetAtS base w s ob xs) :
    Calls Tryz.prog 87 #[.pointer (some ⟨s, 0, none⟩)] w fun e w' => e = .returned (.int .i64 xs.length) ∧ w' = w := by
  obtain ⟨⟨v, hv, hob, hown⟩, hne, hup⟩ := h
  obtain ⟨A, c, rfl⟩ := row_slice hown
  have c0 := blk_cell hv 0
  clear hv hob hown hup
  go_enter Tryz.func87, Tryz.ntmps87
  go_wp2_with fail
  go_ret
  exact ⟨rfl, rfl⟩

def ListPS (xs : List (List UInt8)) (w : World) (e : Ending) (w' : World) : Prop := (∃ v', e = .returned v' ∧ OwnT w.heap.size w' v' xs) ∧ Below w.heap.size w w'


/-- behind some came in -/
def AddPS (base : Nat) (w : World) (s : Nat) (ob : Option Nat) (xs ls : List (List UInt8)) (wr : World) : Prop :=
  ∃ ob', SetAtS base wr s ob' (insAllS xs ls) ∧ (∀ k, ob' = some k → k < w.heap.size → ob = some k) ∧ Fr (fun k => k = s ∨ ob = some k) w wr
set_option maxRecDepth 100000 in
set_option maxHeartbeats 4000000 in
theorem set_addS {base : Nat} {w : World} {s : Nat} {ob : Option Nat} {xs : List (List UInt8)} (h : SetAtS base w s ob xs) (hbw : base ≤ w.heap.size) (A : Option Addr) (ls : List (List UInt8)) (c : Nat) (hl : xs.length + ls.length ≤ 1000000)
    (hc : 0 < ls.length → ∃ g o, A = some ⟨g, o, none⟩ ∧ g < w.heap.size ∧ g ≠ s ∧ ob ≠ some g ∧ ∀ j (h : j < ls.length), w.cell? ⟨g, o + j, none⟩ = some (encT ls[j])) :
    Calls Tryz.prog 89 #[.pointer (some ⟨s, 0, none⟩), .slice A ls.length c] w fun e w' => e = .returned (.int .i64 ((insAllS xs ls).length - xs.length : Nat)) ∧ AddPS base w s ob xs ls w' := by
  have hs0 : s < w.heap.size := by obtain ⟨⟨v, hv, _⟩, _⟩ := h; exact blk_lt hv
  have H0 : Hid (AddPS base w s ob xs [] w) := ⟨ob, h, fun _ h _ => h, Fr.refl _ _⟩
  have HC := Lib.hid hc
  clear hc h
  go_enter Tryz.func89, Tryz.ntmps89
  go_wp2_with fail
  go_loopw [5, 14] (fun cm ct wr => ∃ k : Nat, ct = .int .i64 k ∧ k ≤ ls.length ∧ cm = .int .i64 ((insAllS xs (ls.take k)).length - xs.length : Nat) ∧ Hid (AddPS base w s ob xs (ls.take k) wr)) (fun _ ct _ => ls.length - (Go.RowKit.intOf ct).toNat)
  case atStart => exact ⟨0, rfl, Nat.zero_le _, by simp [insAllS], by simpa using H0⟩
  case round =>
    obtain ⟨k, rfl, hk, rfl, HA⟩ := hrel
    by_cases hlt : k < ls.length
    · obtain ⟨g, o, rfl, hg, hgs, hgo, hcell⟩ := HC.out (by omega)
      obtain ⟨ob', hset, hob', hfr⟩ := HA.out
      have e0 : wr.cell? ⟨g, o + k, none⟩ = some (Value.string (bs ls[k])) := (hfr.cell (p := ⟨g, o + k, none⟩) hg (by rintro (h | h); exact hgs h; exact hgo h)).trans (hcell k hlt)
      have htk : ls.take (k + 1) = ls.take k ++ [ls[k]] := List.take_succ_eq_append_getElem hlt
      obtain ⟨x, hx⟩ : ∃ x, ls[k] = x := ⟨_, rfl⟩
      rw [hx] at e0 htk
      obtain ⟨ys, hys⟩ : ∃ ys, insAllS xs (ls.take k) = ys := ⟨_, rfl⟩
      have hins : insAllS xs (ls.take (k + 1)) = insIS ys x := by rw [htk, insAll_snocS, hys]
      have hyl := insAll_lenS xs (ls.take k)
      rw [List.length_take, hys] at hyl
      have hy1 : ys.length ≤ 1000000 := by omega
      have hy2 : ys.length - xs.length ≤ 1000000 := by omega
      rw [hys] at hset ⊢
      obtain ⟨⟨v, hv, hvo, hown⟩, hne, hup⟩ := hset
      have hbs := bsearch_ownS hown hy1 hup x
      obtain ⟨av, cv, rfl⟩ := row_slice hown
      have c0 := blk_cell hv 0
      have f0 := blk_free hv 0
      obtain ⟨b, hb⟩ : ∃ b, ys.contains x = b := ⟨_, rfl⟩
      rw [hb] at hbs
      have hz := hfr.size
      have H := Lib.hid (And.intro hv (And.intro hvo (And.intro hown (And.intro hne (And.intro hup (And.intro hob' (And.intro hfr (And.intro hins (And.intro hyl hb)))))))))
      have HB := Lib.hid hbs
      clear hbs hv hvo hown hne hup hob' hfr hins hyl hb hys htk hx hcell
      go_wp2_with fail
      refine HB.out.mono ?_
      rintro e w1 ⟨rfl, q, rfl⟩
      cases b with
      | true =>
        go_wp2_with fail
        obtain ⟨hv, hvo, hown, hne, hup, hob', hfr, hins, hyl, hb⟩ := H.out
        have hi2 : insIS ys x = ys := by unfold insIS; rw [if_pos hb]
        have hnew : AddPS base w s ob xs (ls.take (k + 1)) (wr.drewN q) := by
          refine ⟨ob', ⟨⟨_, hv, hvo, ?_⟩, hne, ?_⟩, hob', hfr.drewN q⟩
          · rw [hins, hi2]; exact hown
          · rw [hins, hi2]; exact hup
        have HN := Lib.hid hnew
        have hlen : (insAllS xs (ls.take (k + 1))).length = ys.length := by rw [hins, hi2]
        have HL := Lib.hid hlen
        clear hnew hlen hv hvo hown hne hup hob' hfr hins hyl hb hi2
        go_roundw
        case rel => exact ⟨k + 1, by go_num, by omega, by rw [HL.out], HN⟩
        case measure => simp [Go.RowKit.intOf]; omega
      | false =>
        go_wp2_with fail
        obtain ⟨hv, hvo, hown, hne, hup, hob', hfr, hins, hyl, hb⟩ := H.out
        have hi2 : insIS ys x = ys.take (ys.countP (· < x)) ++ x :: ys.drop (ys.countP (· < x)) := by unfold insIS; rw [hb]; rfl
        have hil : (insIS ys x).length = ys.length + 1 := by rw [insI_lenS, hb]; rfl
        have hiu := insI_upS hup x
        obtain ⟨W2, hW2⟩ : ∃ W2, (wr.drewN q).alloc (Obj.cells #[Value.string (bs x)] 9) = W2 := ⟨_, rfl⟩
        have hsz : (wr.drewN q).heap.size = wr.heap.size := rfl
        have hf2 : Fr (fun k => k = s ∨ ob = some k) w W2 := by rw [← hW2]; exact (hfr.drewN q).alloc _
        have hv2 : W2.heap[s]? = some (.cells #[.slice av ys.length cv] 170 (0, 0)) := by rw [← hW2]; exact blk_alloc (by exact hv) _
        have hn2 : W2.heap[wr.heap.size]? = some (.cells #[encT x] 9 (0, 0)) := by rw [← hW2, ← hsz]; exact heap_alloc_new _ _
        have hbel : Below wr.heap.size wr W2 := by rw [← hW2]; exact Below.alloc (⟨rfl, rfl, rfl, Nat.le_refl _, fun _ _ => rfl⟩ : Below wr.heap.size wr (wr.drewN q)) (Nat.le_refl _) _
        have ho2 : OwnT base W2 (.slice av ys.length cv) ys := own_keptS hown fun g hg => hbel.block g (hown.lt g hg).2
        have hlt2 : ob' ≠ some wr.heap.size := fun e => by have := (hown.lt wr.heap.size (by rw [hvo, e])).2; omega
        have hsl := blk_lt hv2
        have hb2 : base ≤ W2.heap.size := by have := hf2.size; omega
        have HI := Lib.hid (insert_ownS ho2 hy1 _ (countP_leS ys x) x _ hn2 (by rw [hvo]; exact hlt2) hb2)
        rw [hW2]
        have H2 := Lib.hid (And.intro hf2 (And.intro hv2 (And.intro hil (And.intro hiu hi2))))
        clear hW2 hf2 hv2 hn2 hbel ho2 hlt2 hb2 hv hvo hown hne hup hob' hfr hins hyl hb hi2 hil hiu hsz c0 f0
        refine HI.out.mono ?_
        rintro e w3 ⟨⟨v', rfl, ho3, ht3⟩, hf3⟩
        obtain ⟨hv, hvo, hown, hne, hup, hob', hfr, hins, hyl, hb⟩ := H.out
        obtain ⟨hf2, hv2, hil, hiu, hi2⟩ := H2.out
        rw [← hi2] at ho3
        have hns : ¬ vB (.slice av ys.length cv) s := fun e => hne (hvo ▸ e)
        have hv3 := hf3.blk hv2 hns
        have c3 := blk_cell hv3 0
        have f3 := blk_free hv3 0
        obtain ⟨A', c', rfl⟩ := row_slice ho3
        have hns' : (Value.slice A' (insIS ys x).length c').ownBlock ≠ some s := fun e => hns (ht3 s e hsl)
        have hnew : AddPS base w s ob xs (ls.take (k + 1)) (w3.setCell ⟨s, 0, none⟩ (.slice A' (insIS ys x).length c')) := by
          have hf3' : Fr (fun k => k = s ∨ ob = some k) w w3 := hf2.trans2 hf3 fun k hk e => .inr (hob' k (hvo ▸ e) hk)
          refine ⟨_, ⟨⟨_, blk_set hv3 0 _, rfl, ?_⟩, hns', ?_⟩, ?_, hf3'.setCell _ (.inl rfl) _⟩
          · rw [hins]
            exact own_keptS ho3 fun g hg => Below.heap_setCell _ _ _ _ fun e => by cases e; exact hns' hg
          · rw [hins]; exact hiu
          · intro k2 hk2 hl2
            have := ht3 k2 hk2 (Nat.lt_of_lt_of_le hl2 hf2.size)
            exact hob' k2 (hvo ▸ this) hl2
        have HN := Lib.hid hnew
        have hlen : (insAllS xs (ls.take (k + 1))).length = ys.length + 1 := by rw [hins, hil]
        have HL := Lib.hid hlen
        have hyx : xs.length ≤ ys.length := hyl.2
        clear hnew hlen hv hvo hown hne hup hob' hfr hins hyl hb hi2 hil hiu hf2 hv2 ho3 ht3 hf3 hns hns' hv3
        go_wp2_with fail
        go_roundw
        case rel => exact ⟨k + 1, by go_num, by omega, by rw [HL.out]; rw [show ys.length + 1 - xs.length = (ys.length - xs.length) + 1 by omega]; go_num, HN⟩
        case measure => simp [Go.RowKit.intOf]; omega
    · obtain rfl : k = ls.length := by omega
      rw [List.take_length] at HA ⊢
      go_wp2_with fail
      go_ret
      exact ⟨rfl, HA.out⟩
end Go.Proofs.YtpbobonddocgkaaGreatDoor
end
section
/- Sets of texts: Remove. -/
namespace Go.Proofs.YtpbobonddocgkaaGreatDoor
open Go Go.RowKit Go.Lib Go.Sort Go.Shelf

/-- one thing less -/
def delIS (xs : List (List UInt8)) (x : List UInt8) : List (List UInt8) := if xs.contains x then xs.take (xs.countP (· < x)) ++ xs.drop (xs.countP (· < x) + 1) else xs
theorem countP_ltS {xs : List (List UInt8)} {x : List UInt8} (hx : x ∈ xs) : xs.countP (· < x) < xs.length := by
  have h := List.countP_le_length (p := fun y => decide (y < x)) (l := xs)
  rcases Nat.lt_or_ge (xs.countP fun y => decide (y < x)) xs.length with h' | h'
  · exact h'
  · have := List.countP_eq_length.1 (Nat.le_antisymm h h') x hx
    simp only [decide_eq_true_eq] at this
    exact absurd this (tirr x)
theorem delI_subS (xs : List (List UInt8)) (x : List UInt8) : (delIS xs x).Sublist xs := by
  unfold delIS
  split
  · conv => rhs; rw [← List.take_append_drop (xs.countP (· < x)) xs]
    exact List.Sublist.append (List.Sublist.refl _) (by rw [← List.drop_drop]; exact List.drop_sublist _ _)
  · exact List.Sublist.refl _
theorem delI_upS {xs : List (List UInt8)} (h : xs.Pairwise (· < ·)) (x : List UInt8) : (delIS xs x).Pairwise (· < ·) := h.sublist (delI_subS xs x)
theorem delI_lenS (xs : List (List UInt8)) (x : List UInt8) : (delIS xs x).length = if xs.contains x then xs.length - 1 else xs.length := by
  unfold delIS
  split
  · next hc =>
    have := countP_ltS (xs := xs) (x := x) (by simpa using hc)
    simp; omega
  · rfl
/-- many -/
def delAllS (xs ls : List (List UInt8)) : List (List UInt8) := ls.foldl delIS xs
theorem delAll_snocS (xs ls : List (List UInt8)) (x : List UInt8) : delAllS xs (ls ++ [x]) = delIS (delAllS xs ls) x := by simp [delAllS]
theorem delAll_lenS (xs : List (List UInt8)) : ∀ ls : List (List UInt8), (delAllS xs ls).length ≤ xs.length := by
  refine snoc_ind ?_ ?_
  · simp [delAllS]
  · intro l x ih
    rw [delAll_snocS]
    exact Nat.le_trans (delI_subS _ _).length_le ih

/-- behind some went -/
def RemPS (base : Nat) (w : World) (s : Nat) (ob : Option Nat) (xs ls : List (List UInt8)) (wr : World) : Prop :=
  ∃ ob', SetAtS base wr s ob' (delAllS xs ls) ∧ (∀ k, ob' = some k → k < w.heap.size → ob = some k) ∧ Fr (fun k => k = s ∨ ob = some k) w wr
end Go.Proofs.YtpbobonddocgkaaGreatDoor
end
section
/- Sets of texts: what tells a row of numbers, as a function that ranges: slices.Values; All. -/
namespace Go.Proofs.YtpbobonddocgkaaGreatDoor
open Go Go.RowKit Go.Lib Go.Sort Go.Shelf

set_option maxRecDepth 100000 in
set_option maxHeartbeats 4000000 in
theorem values_tellsS (n : Nat) (hn : 2 ≤ n) (base B : Nat) (v : Value) (xs : List (List UInt8)) (w : World) (hxs : xs.length ≤ 1000000) (hb : w.heap[B]? = some (.cells #[v] 89 (0, 0))) (hr : OwnT base w v xs) :
    SeqT Fence.wide n Tryz.prog 128 #[.pointer (some ⟨B, 0, none⟩)] encL (fun _ => False) (rowY B v) xs w := fun l J Jx V hV hJ hJx hY h0 => by
  have hbV := (hV.block B (blk_lt hb)).trans hb
  have c0 : V.cell? ⟨B, 0, none⟩ = some v := (blk_cell hbV 0).trans rfl
  have hrV : OwnT base V v xs := own_keptS hr fun g hg => hV.block g (hr.lt g hg).2
  obtain ⟨A, c, rfl⟩ := row_slice hr
  have HR := Lib.hid hrV
  have HB := Lib.hid hbV
  have HY := Lib.hid hY
  have HJ := Lib.hid hJ
  have HJx := Lib.hid hJx
  clear hb hr hV hrV hbV hY hJ hJx
  refine callsIn_of_wp Tryz.func128 rfl trivial ?_ rfl
  simp only [Tryz.ntmps128, List.size_toArray, List.length_cons, List.length_nil, Nat.reduceAdd, Nat.reduceSub, Array.replicate_succ, Array.replicate_zero, List.push_toArray, List.append_toArray, List.nil_append, List.cons_append]
  gi_wp2
  gi_loopw [7] (fun c1 wr => ∃ k : Nat, c1 = .int .i64 k ∧ k ≤ xs.length ∧ Hid (SameX (rowY B (.slice A xs.length c)) V wr) ∧ Hid (J (xs.take k) wr)) (fun c1 _ => xs.length - (Go.RowKit.intOf c1).toNat)
  case atStart => exact ⟨0, rfl, Nat.zero_le _, fun _ _ => rfl, h0⟩
  case round =>
    obtain ⟨k, rfl, hk, HS, HJk⟩ := hrel
    by_cases hlt : k < xs.length
    · obtain ⟨g, cap, cur, hAs, hg2, ht⟩ : ∃ g cap cur, Value.slice A xs.length c = .slice (some ⟨g, 0, none⟩) xs.length cap ∧ V.heap[g]? = some (.cells cur 9 (0, 0)) ∧ cur.toList.take xs.length = xs.map encT := by
        rcases HR.out.2 with ⟨h1, h2⟩ | ⟨g, cap, cur, h1, _, h3, _, _, _, h6⟩
        · omega
        · rw [Nat.mul_one] at h6; exact ⟨g, cap, cur, h1, h3, h6⟩
      cases hAs
      obtain ⟨x, hx⟩ : ∃ x, xs[k] = x := ⟨_, rfl⟩
      have e0 : wr.cell? ⟨g, k, none⟩ = some (Value.string (bs x)) := by
        rw [HS.out.cell (b := g) (o := k) (.inr rfl), blk_cell hg2, own_getS (base := 0) (w := V) (cap := 0) hg2 ht k hlt, hx]; rfl
      have hsp : xs.take k ++ x :: xs.drop (k + 1) = xs := by rw [← hx, ← List.drop_eq_getElem_cons hlt]; exact List.take_append_drop k xs
      have htk : xs.take (k + 1) = xs.take k ++ [x] := by rw [List.take_succ_eq_append_getElem hlt, hx]
      have HT := Lib.hid htk
      have HSP := Lib.hid hsp
      have hyy := HY.out (xs.take k) x (xs.drop (k + 1)) wr hsp HJk.out
      obtain ⟨fn, tmps, assign, body, hy, hR⟩ := hyy
      dsimp only [encL] at hy
      clear hx htk hsp hg2 ht
      gi_wp2_with fail
      refine ⟨fun _ => by omega, hR.mono ?_⟩
      rintro e W3 (⟨rfl, hJ3, hK3⟩ | ⟨rfl, hJx3⟩)
      · have hS3 : Hid (SameX (rowY B (.slice (some ⟨g, 0, none⟩) xs.length c)) V W3) := HS.out.trans hK3
        rw [← HT.out] at hJ3
        have HJ3 := Lib.hid hJ3
        clear hJ3 hK3 hR hy
        gi_wp2_with fail
        go_roundw
        case rel => exact ⟨k + 1, by go_num, by omega, hS3, HJ3⟩
        case measure => simp [Go.RowKit.intOf]; omega
      · clear hR hy
        gi_wp2_with fail
        refine bodyPost_ret (results_none rfl _ _ _) rfl ?_
        exact ⟨⟨_, rfl⟩, .inr ⟨_, xs.drop (k + 1), by simpa using HSP.out, hJx3⟩⟩
    · obtain rfl : k = xs.length := by omega
      gi_wp2_with fail
      go_end0
      have hj := HJk.out
      rw [List.take_length] at hj
      exact ⟨⟨_, rfl⟩, .inl hj⟩

/-- a tale of numbers, handed back -/
def ValsPS (v : Value) (w : World) (e : Ending) (w' : World) : Prop :=
  e = .returned (.func (.func 128) #[] #[.pointer (some ⟨w.heap.size, 0, none⟩)]) ∧ w'.heap[w.heap.size]? = some (.cells #[v] 89 (0, 0)) ∧ Below w.heap.size w w'
theorem values_callsS (A : Option Addr) (l c : Nat) (w : World) : Calls Tryz.prog 104 #[.slice A l c] w (ValsPS (.slice A l c) w) := by
  go_enter Tryz.func104, Tryz.ntmps104
  go_wp2_with fail
  go_ret
  exact ⟨rfl, heap_alloc_new _ _, (Below.refl _ _).alloc (Nat.le_refl _) _⟩
/-- what tells xs: a tale, its box, the value in it -/
def TaleAtS (base : Nat) (w : World) (F : Value) (xs : List (List UInt8)) : Prop := ∃ B v, base ≤ B ∧ F = .func (.func 128) #[] #[.pointer (some ⟨B, 0, none⟩)] ∧ w.heap[B]? = some (.cells #[v] 89 (0, 0)) ∧ v.ownBlock ≠ some B ∧ OwnT base w v xs
theorem tale_belowS {base : Nat} {w W : World} {F : Value} {xs : List (List UInt8)} (h : TaleAtS base w F xs) {n : Nat} (hb : Below n w W) (hn : w.heap.size ≤ n) : TaleAtS base W F xs := by
  obtain ⟨B, v, h0, h1, h2, h3, h4⟩ := h
  exact ⟨B, v, h0, h1, (hb.block _ (Nat.lt_of_lt_of_le (blk_lt h2) hn)).trans h2, h3, own_keptS h4 fun g hg => hb.block g (Nat.lt_of_lt_of_le (h4.lt g hg).2 hn)⟩
def AllPS (xs : List (List UInt8)) (w : World) (e : Ending) (w' : World) : Prop := (∃ F, e = .returned F ∧ TaleAtS w.heap.size w' F xs) ∧ Below w.heap.size w w'
theorem all_ofS {xs : List (List UInt8)} {w w1 w2 : World} {v : Value} {e : Ending} (h1 : OwnT w.heap.size w1 v xs) (h2 : Below w.heap.size w w1) (h3 : ValsPS v w1 e w2) : AllPS xs w e w2 := by
  obtain ⟨rfl, a, b⟩ := h3
  refine ⟨⟨_, rfl, _, v, h2.size, rfl, a, fun e => ?_, own_keptS h1 fun g hg => b.block g (h1.lt g hg).2⟩, h2.trans (b.mono h2.size)⟩
  have := (h1.lt _ e).2
  omega
theorem own_nilS (base : Nat) (w : World) : OwnT base w (.slice none 0 0) [] := World.ownsRow_nil _ _ _ _

end Go.Proofs.YtpbobonddocgkaaGreatDoor
end
section
/- Sets of texts: what tells a row: a row of numbers out of any function that tells it. -/
namespace Go.Proofs.YtpbobonddocgkaaGreatDoor
open Go Go.RowKit Go.Lib Go.Sort Go.Shelf
attribute [local go_sem] Oper.semAt_some

/-- what tells xs, whatever function it is -/
def TellsS (w : World) (F : Value) (xs : List (List UInt8)) : Prop := ∃ gf lb Y, F = .func (.func gf) #[] lb ∧ (∀ n, 10 ≤ n → SeqT Fence.wide n Tryz.prog gf lb encL (fun _ => False) Y xs w) ∧ (∀ b, Y b → b < w.heap.size) ∧ (∀ args v, (callFunc gf args).run Tryz.prog v = .ok (.enter gf args) v)
theorem tells_belowS {w W : World} {F : Value} {xs : List (List UInt8)} (h : TellsS w F xs) (hb : Below w.heap.size w W) : TellsS W F xs := by
  obtain ⟨gf, lb, Y, h1, h2, h3, h4⟩ := h
  exact ⟨gf, lb, Y, h1, fun n hn l J Jx V hV => h2 n hn l J Jx V (hb.trans (hV.mono hb.size)), fun b hb2 => Nat.lt_of_lt_of_le (h3 b hb2) hb.size, h4⟩
theorem tells_taleS {base : Nat} {w : World} {F : Value} {xs : List (List UInt8)} (h : TaleAtS base w F xs) (hl : xs.length ≤ 1000000) : TellsS w F xs := by
  obtain ⟨B, v, h0, h1, h2, h3, h4⟩ := h
  refine ⟨_, _, rowY B v, h1, fun n hn => values_tellsS n (by omega) base B v xs w hl h2 h4, fun b hb => ?_, enters_of Tryz.func128 (by kernel_rfl) rfl⟩
  rcases hb with rfl | hb
  · exact blk_lt h2
  · exact (h4.lt b hb).2

/-- a slice in its box, and its row -/
def BoxIS (B : Nat) (base : Nat) (W : World) (l : List (List UInt8)) : Prop := ∃ v, W.heap[B]? = some (.cells #[v] 89 (0, 0)) ∧ OwnT base W v l
theorem boxI_ownS (B base : Nat) {β : Type} (f : β → List (List UInt8)) : Own (fun s W => BoxIS B base W (f s)) := fun s X Y row hs hg hrow => by
  obtain ⟨v, h1, h2⟩ := hs
  refine ⟨v, (hg.block B (blk_lt h1) (fun e => ?_)).trans h1, own_keptS h2 fun g hg2 => hg.block g (h2.lt g hg2).2 fun e => ?_⟩
  · obtain ⟨o, ho, hc⟩ := hrow B e.symm; rw [h1] at ho; cases ho; cases hc
  · obtain ⟨o, ho, hc⟩ := hrow g e.symm
    obtain ⟨o2, ho2, hc2⟩ := own_cells h2 g hg2
    rw [ho] at ho2; cases ho2; rw [hc] at hc2; cases hc2
theorem row_baseqS {W : World} {base base' : Nat} {v : Value} {xs : List (List UInt8)} (h : OwnT base W v xs) (hb : base' ≤ base) : OwnT base' W v xs := by
  obtain ⟨h1, h2⟩ := h
  refine ⟨h1, ?_⟩
  rcases h2 with h2 | ⟨g, cap, cur, rfl, h3, h4⟩
  · exact .inl h2
  · exact .inr ⟨g, cap, cur, rfl, by omega, h4⟩
end Go.Proofs.YtpbobonddocgkaaGreatDoor
end
section
/- Sets of texts: gather, of nothing: what some functions tell, each thing once, rising. -/
namespace Go.Proofs.YtpbobonddocgkaaGreatDoor
open Go Go.RowKit Go.Lib Go.Sort Go.Shelf
attribute [local go_sem] Oper.semAt_some



theorem marks_ownS {β : Type} (B : Nat) (Ds : List Nat) : OwnFrom B (fun (_ : β) V => ∀ D ∈ Ds, D < B ∧ V.heap[D]? = some (.deferred (some []))) := fun s V V' row h hg hrow D hD => by
  obtain ⟨a, b⟩ := h D hD
  exact ⟨a, (hg.block D (blk_lt b) (fun e => by have := (hrow D e.symm).1; omega)).trans b⟩
def GatGS (w : World) (tl : List (List (List UInt8))) (Ds : List Nat) (k : Nat) (W : World) : Prop :=
  Ds.Nodup ∧ (∀ D ∈ Ds, w.heap.size < D ∧ W.heap[D]? = some (.deferred (some []))) ∧ BoxIS w.heap.size (w.heap.size + 1) W ((tl.take k).flatten) ∧ Below w.heap.size w W
theorem sort_none {base : Nat} {w : World} {v : Value} (h : OwnT base w v []) :
    Calls Tryz.prog 125 #[v] w fun e w' => e = .returned (.tuple #[]) ∧ OwnT base w' v [] ∧ Fr (vB v) w w' := by
  obtain ⟨A, c, rfl⟩ := row_slice h
  refine (Tryz.slices_Sort_string_none A c w).mono ?_
  rintro e w' ⟨rfl, rfl⟩
  exact ⟨rfl, h, Fr.refl _ _⟩
theorem compact_none {base : Nat} {w : World} {v : Value} (h : OwnT base w v []) :
    Calls Tryz.prog 126 #[v, .func (.func 127) #[] #[]] w fun e w' => (∃ v', e = .returned v' ∧ OwnT base w' v' []) ∧ Fr (vB v) w w' := by
  obtain ⟨A, c, rfl⟩ := row_slice h
  have H := Lib.hid h
  clear h
  go_enter Tryz.func126, Tryz.ntmps126
  go_wp2_with fail
  go_ret
  exact ⟨⟨_, rfl, H.out⟩, Fr.refl _ _⟩
set_option maxRecDepth 100000 in
set_option maxHeartbeats 4000000 in
theorem gather_ofS {w : World} (A : Option Addr) (tl : List (List (List UInt8))) (c : Nat) (hn : tl.length ≤ 1000) (hl : tl.flatten.length ≤ 1000000)
    (hc : 0 < tl.length → ∃ g o, A = some ⟨g, o, none⟩ ∧ g < w.heap.size ∧ ∀ j (h : j < tl.length), ∃ F, w.cell? ⟨g, o + j, none⟩ = some F ∧ TellsS w F tl[j]) (h0 : tl.flatten = []) :
    Calls Tryz.prog 103 #[.slice A tl.length c] w (ListPS [] w) := by
  have HSS := Lib.hid h0
  clear h0
  obtain ⟨i0, hi, hz0, hz1, hz2⟩ := info_parts Tryz.infoT
  refine (callsIn_wide (n := 30)).1 ?_
  refine callsIn_of_wp_marks Tryz.func103 rfl trivial ?_ rfl
  simp only [Tryz.ntmps103, List.size_toArray, List.length_cons, List.length_nil, Nat.reduceAdd, Nat.reduceSub, Array.replicate_succ, Array.replicate_zero, List.push_toArray, List.append_toArray, List.nil_append, List.cons_append]
  gi_wp2_with fail
  have hb0 : (w.alloc (Obj.cells #[Value.slice none 0 0] 89)).heap[w.heap.size]? = some (.cells #[.slice none 0 0] 89 (0, 0)) := heap_alloc_new w _
  have G0 : GatGS w tl [] 0 (w.alloc (Obj.cells #[Value.slice none 0 0] 89)) := ⟨List.nodup_nil, (fun _ h => by cases h), ⟨_, hb0, own_nilS _ _⟩, (Below.refl _ w).alloc (Nat.le_refl _) _⟩
  have HC := Lib.hid hc
  clear hb0 hc
  refine wpIn_loop_ghost_k (fun n a W => ∃ (k : Nat) (Ds : List Nat) (u5 u10 u11 u12 u13 u19 : Value), n = tl.length - k ∧ k ≤ tl.length ∧ a = { tmps := #[Value.slice A tl.length c, undef, Value.slice none 0 0, Value.pointer (some { block := w.heap.size, off := 0 }), undef, u5, undef, Value.slice A tl.length c, Value.int IntKind.i64 tl.length, Value.int IntKind.i64 k, u10, u11, u12, u13, undef, undef, undef, undef, undef, u19, undef, undef, undef, undef], defers := Ds.map mark } ∧ Hid (GatGS w tl Ds k W)) tl.length ⟨0, [], _, _, _, _, _, _, rfl, Nat.zero_le _, rfl, G0⟩ ?_
  clear G0
  rintro gk a W ⟨k, Ds, u5, u10, u11, u12, u13, u19, hgk, hk, rfl, HG⟩ J K hJ hK
  by_cases hlt : k < tl.length
  · obtain ⟨g, o, rfl, hg, hcell⟩ := HC.out (by omega)
    obtain ⟨F, hF, hT⟩ := hcell k hlt
    obtain ⟨gf, lb, Y, rfl, hseq, hY, heg⟩ := hT
    obtain ⟨d1, d2, ⟨vb, d3, d4⟩, d5⟩ := HG.out
    have e0 : W.cell? ⟨g, o + k, none⟩ = some (.func (.func gf) #[] lb) := (World.cell?_of_block (w := w) (w' := W) (a := ⟨g, o + k, none⟩) (d5.block g hg)).trans hF
    have HSq := Lib.hid hseq
    have HEg := Lib.hid heg
    have HJ := Lib.hid hJ
    have HK := Lib.hid hK
    have hWz := d5.size
    clear d1 d2 d3 d4 d5 hcell hF hseq heg hJ hK
    gi_wp2_with fail
    obtain ⟨d1, d2, ⟨vb, d3, d4⟩, d5⟩ := HG.out
    have hfl : ((tl.take k).flatten).length + (tl[k]).length ≤ tl.flatten.length := by
      have h1 := congrArg (fun l => (List.flatten l).length) (List.take_append_drop (k + 1) tl)
      simp only [List.flatten_append, List.length_append, List.take_succ_eq_append_getElem hlt, List.flatten_cons, List.flatten_nil, List.append_nil] at h1
      omega
    have htk : (tl.take (k + 1)).flatten = (tl.take k).flatten ++ tl[k] := by rw [List.take_succ_eq_append_getElem hlt, List.flatten_append, List.flatten_cons, List.flatten_nil, List.append_nil]
    obtain ⟨xs, hxs⟩ : ∃ xs, tl[k] = xs := ⟨_, rfl⟩
    obtain ⟨ys, hys⟩ : ∃ ys, (tl.take k).flatten = ys := ⟨_, rfl⟩
    have HSq' := HSq.out
    rw [hxs] at HSq' hfl htk
    rw [hys] at d4 hfl htk
    have hYl : ∀ b, Y b → b < W.heap.size := fun b hb => by have := hY b hb; omega
    refine wpIn_rangeT (X := fun _ => False) (Y := Y) (xs := xs) (encs := encL) (w0 := w) (gf := gf) (lb := lb)
      (fun pre V => (BoxIS w.heap.size (w.heap.size + 1) V (ys ++ pre) ∧ (∀ D ∈ Ds, D < W.heap.size ∧ V.heap[D]? = some (.deferred (some [])))) ∧ Below w.heap.size w V) (fun _ _ _ => False)
      rfl (HSq' _ (by omega)) d5 (fun _ h => h.elim) hYl rfl (by omega) trivial HEg.out (fun _ => rfl)
      (OwnFrom.and (OwnFrom.and ((boxI_ownS _ _ (fun pre => ys ++ pre)).from _) (marks_ownS _ _)) (ownFrom_below (Nat.le_refl _) d5.size)) (fun _ _ _ _ h => h.elim) (fun _ _ _ _ _ h _ _ => h) (fun _ _ _ _ _ h => h.elim)
      ⟨⟨⟨_, d3, by rw [List.append_nil]; exact d4⟩, fun D hD => ⟨blk_lt (d2 D hD).2, (d2 D hD).2⟩⟩, d5⟩ ?round ?done (fun _ _ _ _ _ _ _ h _ => h.elim)
    case round =>
      rintro l pre x r V0 V K2 hl2 ⟨rl, hrl⟩ hpx ⟨⟨⟨vb, h3, h4⟩, h6⟩, h5⟩ hK
      dsimp only [encL]
      have HK2 := Lib.hid hK
      clear hK
      gi_wp2
      refine HK2.out _ ?_
      clear HK2 K2
      have c3 := blk_cell h3 0
      have f3 := blk_free h3 0
      have hpl : pre.length + 1 ≤ xs.length := by
        have := congrArg List.length hpx
        simp at this; omega
      have hVz := h5.size
      have hVw : W.heap.size ≤ V.heap.size := by have := blk_lt hrl; omega
      have hsz := blk_lt d3
      have hyl : (ys ++ pre).length = ys.length + pre.length := List.length_append
      obtain ⟨zs, hzs⟩ : ∃ zs, ys ++ pre = zs := ⟨_, rfl⟩
      rw [hzs] at h4 hyl
      have hzl : zs.length ≤ 1000000 := by omega
      clear hyl
      have hor : V.ownsRow (w.heap.size + 1) 9 1 vb zs.length (zs.map encT) := h4
      have HZ := Lib.hid hzs
      clear hzs
      have HO := Lib.hid hor
      have H := Lib.hid (And.intro h3 (And.intro h4 (And.intro h5 (And.intro h6 hrl))))
      clear h3 h4 h5 h6 hrl hor d1 d2 d3 d4 d5 hpx HSq' htk hxs hys
      gi_wp2_with (first | (gi_at_builtin; refine Hid.out ?_))
      refine Lib.hid ?_
      refine wpListIn_app_fr rfl _ _ 89 rfl (w.heap.size + 1) 9 i0 _ 1 16 Tryz.underlying89 hi hz0 hz1 hz2 rfl (by decide) _ _ _ rfl HO.out #[encT x] _ rfl rfl rfl (by intro u hu; simp at hu; subst hu; rfl) (by omega) (by decide) (by omega) ?_
      intro v1 W2 hown1 hfr1
      obtain ⟨A1, c1', rfl⟩ := row_slice hown1
      have e1 : W2.heap[w.heap.size]? = some (.cells #[vb] 89 (0, 0)) := (fr_own HO.out hfr1 (by omega) (by omega : w.heap.size < V.heap.size)).trans H.out.1
      have g1 := blk_cell e1 0
      have g2 := blk_free e1 0
      gi_wp2_with fail
      obtain ⟨h3, h4, h5, h6, hrl⟩ := H.out
      have hfr : Fr (fun k => vb.ownBlock = some k ∨ k = w.heap.size) V (W2.setCell ⟨w.heap.size, 0, none⟩ (.slice A1 (zs.length + 1) c1')) := (hfr1.mono fun _ _ h => .inl h).setCell _ (.inr rfl) _
      have hno : ∀ c, c < w.heap.size → ¬ (vb.ownBlock = some c ∨ c = w.heap.size) := by
        rintro c hc (e | e)
        · have := (h4.lt _ e).1; omega
        · omega
      refine ⟨hfr.keeps ?_ _, ?_, ⟨⟨.slice A1 (zs.length + 1) c1', ?_, ?_⟩, ?_⟩, h5.trans (hfr.below h5.size ?_)⟩
      · rintro k hk (e | rfl)
        · exact own_cells h4 k e
        · exact ⟨_, h3, rfl⟩
      · intro c hc
        have := hY c hc
        exact hfr.block c (by omega) (hno c (by omega))
      · have := blk_set e1 0 (.slice A1 (zs.length + 1) c1'); exact this
      · have hown2 : OwnT (w.heap.size + 1) W2 (.slice A1 (zs.length + 1) c1') (ys ++ (pre ++ [x])) := by
          rw [← List.append_assoc, HZ.out]; unfold OwnT; rw [List.length_append, List.map_append]; exact hown1
        exact own_keptS hown2 fun g hg => heap_setCell_other W2 _ g _ (by have := (hown2.lt g hg).1; simp; omega)
      · intro D hD
        refine ⟨(h6 D hD).1, hfr.blk (h6 D hD).2 ?_⟩
        rintro (e | e)
        · obtain ⟨o2, a1, a2⟩ := own_cells h4 D e
          rw [(h6 D hD).2] at a1; cases a1; cases a2
        · subst e
          have := (h6 _ hD).2
          rw [h3] at this; cases this
      · rintro k hk (e | rfl)
        · have := (h4.lt k e).1; omega
        · omega
    case done =>
      rintro D V hD ⟨⟨⟨vb, h3, h4⟩, h6⟩, h5⟩ hdef
      have hG : GatGS w tl (D :: Ds) (k + 1) V := by
        refine ⟨List.nodup_cons.2 ⟨fun e => by have := (h6 D e).1; omega, d1⟩, ?_, ⟨vb, h3, by rw [htk]; exact h4⟩, h5⟩
        intro E hE
        rcases List.mem_cons.1 hE with rfl | hE
        · exact ⟨by have := blk_lt d3; omega, hdef⟩
        · exact ⟨(d2 E hE).1, (h6 E hE).2⟩
      have HG2 := Lib.hid hG
      clear hG h3 h4 h5 h6 hdef d1 d2 d3 d4 d5 HSq' htk hxs hys hYl
      gi_wp2_with fail
      exact HK.out _ _ (Handed.intro (tl.length - (k + 1)) (by omega) (HJ.out _ _ _ ⟨k + 1, D :: Ds, _, _, _, _, _, _, rfl, by omega, rfl, HG2⟩))
  · obtain rfl : k = tl.length := by omega
    have htk : (tl.take tl.length).flatten = tl.flatten := by rw [List.take_length]
    obtain ⟨d1, d2, ⟨vb, d3, d4⟩, d5⟩ := HG.out
    rw [htk, HSS.out] at d4
    have c0 := blk_cell d3 0
    have hso := sort_none d4
    have hbz := blk_lt d3
    have hWz := d5.size
    have HS := Lib.hid hso
    have H := Lib.hid (And.intro d1 (And.intro d2 (And.intro d3 (And.intro d4 d5))))
    clear hJ d1 d2 d3 d4 d5 hso htk
    gi_wp2_with fail
    refine ⟨trivial, ((callsIn_wide (n := 29)).2 HS.out).mono ?_⟩
    rintro e W1 ⟨rfl, o1, f1⟩
    have hnv : ¬ vB vb w.heap.size := fun e => by have := (H.out.2.2.2.1.lt _ e).1; omega
    have b1 := f1.blk H.out.2.2.1 hnv
    have c1 := blk_cell b1 0
    have hco := compact_none o1
    have HO := Lib.hid hco
    have H1 := Lib.hid (And.intro o1 (And.intro f1 b1))
    clear o1 f1 b1 hco hnv
    gi_wp2_with fail
    refine ⟨trivial, ((callsIn_wide (n := 29)).2 HO.out).mono ?_⟩
    rintro e W2 ⟨⟨v', rfl, o2⟩, f2⟩
    have H2 := Lib.hid (And.intro o2 f2)
    clear o2 f2
    gi_wp2_with fail
    obtain ⟨d1, d2, d3, d4, d5⟩ := H.out
    obtain ⟨o1, f1, b1⟩ := H1.out
    obtain ⟨o2, f2⟩ := H2.out
    have m1 : ∀ D ∈ Ds, W1.heap[D]? = some (.deferred (some [])) := fun D hD => f1.blk (d2 D hD).2 fun e => by
      obtain ⟨o, a, b⟩ := own_cells d4 D e
      rw [(d2 D hD).2] at a; cases a; cases b
    have m2 : ∀ D ∈ Ds, W2.heap[D]? = some (.deferred (some [])) := fun D hD => f2.blk (m1 D hD) fun e => by
      obtain ⟨o, a, b⟩ := own_cells o1 D e
      rw [m1 D hD] at a; cases a; cases b
    refine leaves_marks Ds W2 d1 m2 fun w' hf => ⟨_, results_tmp rfl _ _ _, ⟨v', rfl, ?_⟩, ?_⟩
    · refine own_keptS (row_baseqS o2 (by omega)) fun g hg => hf.block g (o2.lt g hg).2 fun e => ?_
      obtain ⟨o, a, b⟩ := own_cells o2 g hg
      rw [m2 g e] at a; cases a; cases b
    · refine d5.trans ((f1.below d5.size fun k _ e => ?_).trans ((f2.below (Nat.le_trans d5.size f1.size) fun k _ e => ?_).trans (hf.below (Nat.le_trans d5.size (Nat.le_trans f1.size f2.size)) fun k _ e => ?_)))
      · have := (d4.lt k e).1; omega
      · have := (o1.lt k e).1; omega
      · have := (d2 k e).1; omega
end Go.Proofs.YtpbobonddocgkaaGreatDoor
end
section
/- Sets of texts: Of, of nothing. -/
namespace Go.Proofs.YtpbobonddocgkaaGreatDoor
open Go Go.RowKit Go.Lib Go.Sort Go.Shelf

/-- a new set -/
def OfPS (zs : List (List UInt8)) (w : World) (e : Ending) (w' : World) : Prop := (∃ s ob, e = .returned (.pointer (some ⟨s, 0, none⟩)) ∧ SetAtS w.heap.size w' s ob zs ∧ w.heap.size ≤ s) ∧ Below w.heap.size w w'
set_option maxHeartbeats 4000000 in
theorem set_ofS (w : World) :
    Calls Tryz.prog 88 #[.slice none 0 0] w (OfPS [] w) := by
  have HV := Lib.hid (values_callsS none 0 0 w)
  go_enter Tryz.func88, Tryz.ntmps88
  go_wp2_with fail
  refine HV.out.mono ?_
  rintro e w1 ⟨rfl, h1, h2⟩
  obtain ⟨W2, hW2⟩ : ∃ W2, w1.alloc (Obj.cells #[Value.func (.func 128) #[] #[.pointer (some ⟨w.heap.size, 0, none⟩)]] 173) = W2 := ⟨_, rfl⟩
  have hb2 : Below w1.heap.size w1 W2 := by rw [← hW2]; exact (Below.refl _ _).alloc (Nat.le_refl _) _
  have hT : TellsS W2 (.func (.func 128) #[] #[.pointer (some ⟨w.heap.size, 0, none⟩)]) [] := tells_belowS (tells_taleS (base := w.heap.size) ⟨_, .slice none 0 0, Nat.le_refl _, rfl, h1, by simp [Value.ownBlock], ownT_nil _ _⟩ (by simp)) hb2
  have hcc : W2.cell? ⟨w1.heap.size, 0, none⟩ = some (Value.func (.func 128) #[] #[.pointer (some ⟨w.heap.size, 0, none⟩)]) := by rw [← hW2]; exact blk_cell (heap_alloc_new w1 _) 0
  have hz2 : w1.heap.size < W2.heap.size := by rw [← hW2, World.size_alloc]; omega
  have hz1 := h2.size
  have HG := Lib.hid (gather_ofS (w := W2) (some ⟨w1.heap.size, 0, none⟩) [[]] 1 (by simp) (by simp) (fun _ => ⟨_, _, rfl, hz2, fun j hj => by
    obtain rfl : j = 0 := by simp at hj; omega
    exact ⟨_, hcc, hT⟩⟩) rfl)
  have hB : Below w.heap.size w W2 := h2.trans (hb2.mono hz1)
  have H2 := Lib.hid hB
  have HW := Lib.hid hW2
  clear hb2 hT hcc h1 h2 hB hW2
  go_wp2_with fail
  rw [HW.out]
  refine HG.out.mono ?_
  rintro e w3 ⟨⟨v', rfl, h3⟩, h4⟩
  obtain ⟨A', c', rfl⟩ := row_slice h3
  have H3 := Lib.hid (And.intro h3 h4)
  clear h3 h4
  go_wp2_with fail
  go_ret
  obtain ⟨h3, h4⟩ := H3.out
  have hB := H2.out
  have hz := hB.size
  have hb3 : Below w3.heap.size w3 (w3.alloc (Obj.cells #[Value.slice A' ([] : List (List UInt8)).length c'] 170)) := (Below.refl _ _).alloc (Nat.le_refl _) _
  refine ⟨⟨w3.heap.size, _, rfl, ⟨⟨_, heap_alloc_new w3 _, rfl, row_baseqS (own_keptS h3 fun g hg => hb3.block g (h3.lt g hg).2) hz⟩, fun e => ?_, List.Pairwise.nil⟩, ?_⟩, hB.trans ((h4.mono hz).trans (hb3.mono (Nat.le_trans hz h4.size)))⟩
  · have := (h3.lt _ e).2; omega
  · have := h4.size; omega
end Go.Proofs.YtpbobonddocgkaaGreatDoor
end
section
/- Layer 10: mathematics: each once, rising. -/
namespace Go.Proofs.YtpbobonddocgkaaGreatDoor
open Go Go.RowKit Go.Lib Go.Sort Go.Shelf

theorem up_ext : ∀ {a b : List Int}, a.Pairwise (· < ·) → b.Pairwise (· < ·) → (∀ x, x ∈ a ↔ x ∈ b) → a = b
  | [], [], _, _, _ => rfl
  | [], y :: b, _, _, h => by have := (h y).2 (by simp); simp at this
  | x :: a, [], _, _, h => by have := (h x).1 (by simp); simp at this
  | x :: a, y :: b, ha, hb, h => by
    rw [List.pairwise_cons] at ha hb
    have e : x = y := by
      have h1 := (h x).1 (by simp)
      have h2 := (h y).2 (by simp)
      rcases List.mem_cons.1 h1 with h1 | h1
      · exact h1
      · rcases List.mem_cons.1 h2 with h2 | h2
        · exact h2.symm
        · have := ha.1 y h2; have := hb.1 x h1; omega
    subst e
    congr 1
    refine up_ext ha.2 hb.2 fun z => ⟨fun hz => ?_, fun hz => ?_⟩
    · rcases List.mem_cons.1 ((h z).1 (List.mem_cons_of_mem _ hz)) with e | e
      · subst e; have := ha.1 _ hz; omega
      · exact e
    · rcases List.mem_cons.1 ((h z).2 (List.mem_cons_of_mem _ hz)) with e | e
      · subst e; have := hb.1 _ hz; omega
      · exact e

theorem compactUpTo_succ (d : Array Int) (m : Nat) : compactUpTo d (m + 1) = compactUpTo d m ++ if keeps d m then [d[m]!] else [] := by
  unfold compactUpTo
  rw [List.range_succ, List.filter_append, List.map_append]
  congr 1
  by_cases h : keeps d m <;> simp [h]
theorem compact_ok (d : Array Int) (hs : ∀ i j, i ≤ j → j < d.size → d[i]! ≤ d[j]!) : ∀ m, m ≤ d.size → (compactUpTo d m).Pairwise (· < ·) ∧ ∀ x, x ∈ compactUpTo d m ↔ ∃ j, j < m ∧ d[j]! = x
  | 0, _ => ⟨by simp [compactUpTo], fun x => by simp [compactUpTo]⟩
  | m + 1, hm => by
    obtain ⟨h1, h2⟩ := compact_ok d hs m (by omega)
    rw [compactUpTo_succ]
    by_cases hk : keeps d m = true
    · rw [if_pos hk]
      refine ⟨List.pairwise_append.2 ⟨h1, by simp, fun y hy z hz => ?_⟩, fun x => ?_⟩
      · obtain ⟨j, hj, rfl⟩ := (h2 y).1 hy
        rw [List.mem_singleton] at hz
        subst hz
        simp only [keeps, decide_eq_true_eq] at hk
        rcases hk with hk | hk
        · omega
        · have a1 := hs j (m - 1) (by omega) (by omega)
          have a2 := hs (m - 1) m (by omega) (by omega)
          omega
      · rw [List.mem_append, h2, List.mem_singleton]
        constructor
        · rintro (⟨j, hj, h⟩ | h)
          · exact ⟨j, by omega, h⟩
          · exact ⟨m, by omega, h.symm⟩
        · rintro ⟨j, hj, h⟩
          by_cases e : j = m
          · subst e; exact .inr h.symm
          · exact .inl ⟨j, by omega, h⟩
    · rw [if_neg hk, List.append_nil]
      refine ⟨h1, fun x => ?_⟩
      rw [h2]
      simp only [keeps, decide_eq_true_eq, not_or, Decidable.not_not] at hk
      constructor
      · rintro ⟨j, hj, h⟩; exact ⟨j, by omega, h⟩
      · rintro ⟨j, hj, h⟩
        by_cases e : j = m
        · subst e; exact ⟨j - 1, by omega, hk.2.symm.trans h⟩
        · exact ⟨j, by omega, h⟩
theorem compact_up {zs : List Int} (h : zs.Pairwise (· ≤ ·)) : (compact zs).Pairwise (· < ·) ∧ ∀ x, x ∈ compact zs ↔ x ∈ zs := by
  have hs : ∀ i j, i ≤ j → j < zs.toArray.size → zs.toArray[i]! ≤ zs.toArray[j]! := fun i j hij hj => by
    simp only [List.size_toArray] at hj
    rw [getElem!_pos zs.toArray i (by simp; omega), getElem!_pos zs.toArray j (by simpa using hj)]
    by_cases e : i = j
    · subst e; exact Int.le_refl _
    · have := List.pairwise_iff_getElem.1 h i j (by omega) hj (by omega)
      simpa using this
  obtain ⟨h1, h2⟩ := compact_ok zs.toArray hs zs.length (by simp)
  refine ⟨h1, fun x => (h2 x).trans ⟨?_, fun hx => ?_⟩⟩
  · rintro ⟨j, hj, rfl⟩
    rw [getElem!_pos zs.toArray j (by simpa using hj)]
    simp
  · obtain ⟨j, hj, e⟩ := List.getElem_of_mem hx
    exact ⟨j, hj, by rw [getElem!_pos zs.toArray j (by simpa using hj)]; simpa using e⟩
theorem normI_ok (xs : List Int) : (normI xs).Pairwise (· < ·) ∧ ∀ x, x ∈ normI xs ↔ x ∈ xs := by
  have h := List.pairwise_mergeSort (le := fun (x y : Int) => decide (x ≤ y)) (fun a b c h1 h2 => by simp at *; omega) (fun a b => by simp; omega) xs
  obtain ⟨h1, h2⟩ := compact_up (zs := xs.mergeSort fun x y => decide (x ≤ y)) (h.imp fun h => by simpa using h)
  exact ⟨h1, fun x => (h2 x).trans List.mem_mergeSort⟩
theorem insI_mem (xs : List Int) (y x : Int) : x ∈ insI xs y ↔ x = y ∨ x ∈ xs := by
  unfold insI
  split
  · next h =>
    constructor
    · exact .inr
    · rintro (rfl | h2)
      · simpa using h
      · exact h2
  · conv => rhs; rw [← List.take_append_drop (xs.countP (· < y)) xs]
    simp only [List.mem_append, List.mem_cons]
    constructor
    · rintro (h | h | h)
      · exact .inr (.inl h)
      · exact .inl h
      · exact .inr (.inr h)
    · rintro (h | h | h)
      · exact .inr (.inl h)
      · exact .inl h
      · exact .inr (.inr h)
theorem insAll_mem (xs : List Int) (x : Int) : ∀ ls : List Int, x ∈ insAll xs ls ↔ x ∈ xs ∨ x ∈ ls := by
  refine snoc_ind ?_ ?_
  · simp [insAll]
  · intro l y ih
    rw [insAll_snoc, insI_mem, ih, List.mem_append, List.mem_singleton]
    constructor
    · rintro (h | h | h)
      · exact .inr (.inr h)
      · exact .inl h
      · exact .inr (.inl h)
    · rintro (h | h | h)
      · exact .inr (.inl h)
      · exact .inr (.inr h)
      · exact .inl h
theorem normI_ins (xs : List Int) : normI xs = insAll [] xs :=
  up_ext (normI_ok xs).1 (insAll_up List.Pairwise.nil xs) fun x => by rw [(normI_ok xs).2, insAll_mem]; simp
theorem normI_len (xs : List Int) : (normI xs).length ≤ xs.length := by
  rw [normI_ins]; have := insAll_len [] xs; simp at this; omega
theorem delI_mem {xs : List Int} (h : xs.Pairwise (· < ·)) (y x : Int) : x ∈ delI xs y ↔ x ∈ xs ∧ x ≠ y := by
  unfold delI
  split
  · next hc =>
    have hm : y ∈ xs := by simpa using hc
    have hlt := countP_lt hm
    obtain ⟨t1, t2⟩ := take_lt h y
    have hp := h
    rw [← List.take_append_drop (xs.countP (· < y)) xs] at hp
    obtain ⟨p1, p2, p3⟩ := List.pairwise_append.1 hp
    have hd : xs.drop (xs.countP (· < y)) = y :: xs.drop (xs.countP (· < y) + 1) := by
      rw [List.drop_eq_getElem_cons hlt]
      congr 1
      have hy : y ∈ xs.take (xs.countP (· < y)) ++ xs.drop (xs.countP (· < y)) := by rw [List.take_append_drop]; exact hm
      rcases List.mem_append.1 hy with hy | hy
      · have := t1 y hy; omega
      · rw [List.drop_eq_getElem_cons hlt] at hy p2 t2
        have a1 := t2 _ (List.mem_cons_self)
        rcases List.mem_cons.1 hy with e | e
        · exact e.symm
        · have := (List.pairwise_cons.1 p2).1 y e; omega
    rw [hd] at p2
    have p4 := (List.pairwise_cons.1 p2).1
    have e : x ∈ xs ↔ x ∈ xs.take (xs.countP (· < y)) ∨ x = y ∨ x ∈ xs.drop (xs.countP (· < y) + 1) := by
      conv => lhs; rw [← List.take_append_drop (xs.countP (· < y)) xs, hd]
      simp
    rw [e, List.mem_append]
    constructor
    · rintro (h | h)
      · have := t1 x h; exact ⟨.inl h, by omega⟩
      · have := p4 x h; exact ⟨.inr (.inr h), by omega⟩
    · rintro ⟨h | h | h, h2⟩
      · exact .inl h
      · exact absurd h h2
      · exact .inr h
  · next hc =>
    constructor
    · intro hx; exact ⟨hx, fun e => hc (by subst e; simpa using hx)⟩
    · exact fun hx => hx.1
theorem delI_filter {xs : List Int} (h : xs.Pairwise (· < ·)) (y : Int) : delI xs y = xs.filter (fun x => decide (x ≠ y)) :=
  up_ext (delI_up h y) (h.sublist List.filter_sublist) fun x => by rw [delI_mem h]; simp
theorem delAll_up {xs : List Int} (h : xs.Pairwise (· < ·)) : ∀ ls : List Int, (delAll xs ls).Pairwise (· < ·) := by
  refine snoc_ind h ?_
  intro l x ih
  rw [delAll_snoc]
  exact delI_up ih x
theorem delAll_mem {xs : List Int} (h : xs.Pairwise (· < ·)) (x : Int) : ∀ ls : List Int, x ∈ delAll xs ls ↔ x ∈ xs ∧ x ∉ ls := by
  refine snoc_ind ?_ ?_
  · simp [delAll]
  · intro l y ih
    rw [delAll_snoc, delI_mem (delAll_up h l), ih, List.mem_append, List.mem_singleton, not_or, and_assoc]
theorem delAll_nil {xs ls : List Int} (h : xs.Pairwise (· < ·)) (hs : ∀ x ∈ xs, x ∈ ls) : delAll xs ls = [] := by
  rw [List.eq_nil_iff_forall_not_mem]
  intro x hx
  have := (delAll_mem h x ls).1 hx
  exact this.2 (hs x this.1)
end Go.Proofs.YtpbobonddocgkaaGreatDoor
end
section
/- Sets of texts: mathematics: each once, rising. -/
namespace Go.Proofs.YtpbobonddocgkaaGreatDoor
open Go Go.RowKit Go.Lib Go.Sort Go.Shelf

theorem up_extS : ∀ {a b : List (List UInt8)}, a.Pairwise (· < ·) → b.Pairwise (· < ·) → (∀ x, x ∈ a ↔ x ∈ b) → a = b
  | [], [], _, _, _ => rfl
  | [], y :: b, _, _, h => by have := (h y).2 (by simp); simp at this
  | x :: a, [], _, _, h => by have := (h x).1 (by simp); simp at this
  | x :: a, y :: b, ha, hb, h => by
    rw [List.pairwise_cons] at ha hb
    have e : x = y := by
      have h1 := (h x).1 (by simp)
      have h2 := (h y).2 (by simp)
      rcases List.mem_cons.1 h1 with h1 | h1
      · exact h1
      · rcases List.mem_cons.1 h2 with h2 | h2
        · exact h2.symm
        · exact absurd (ttr (ha.1 y h2) (hb.1 x h1)) (tirr x)
    subst e
    congr 1
    refine up_extS ha.2 hb.2 fun z => ⟨fun hz => ?_, fun hz => ?_⟩
    · rcases List.mem_cons.1 ((h z).1 (List.mem_cons_of_mem _ hz)) with e | e
      · subst e; exact absurd (ha.1 _ hz) (tirr _)
      · exact e
    · rcases List.mem_cons.1 ((h z).2 (List.mem_cons_of_mem _ hz)) with e | e
      · subst e; exact absurd (hb.1 _ hz) (tirr _)
      · exact e

theorem insI_memS (xs : List (List UInt8)) (y x : List UInt8) : x ∈ insIS xs y ↔ x = y ∨ x ∈ xs := by
  unfold insIS
  split
  · next h =>
    constructor
    · exact .inr
    · rintro (rfl | h2)
      · simpa using h
      · exact h2
  · conv => rhs; rw [← List.take_append_drop (xs.countP (· < y)) xs]
    simp only [List.mem_append, List.mem_cons]
    constructor
    · rintro (h | h | h)
      · exact .inr (.inl h)
      · exact .inl h
      · exact .inr (.inr h)
    · rintro (h | h | h)
      · exact .inr (.inl h)
      · exact .inl h
      · exact .inr (.inr h)
theorem delI_memS {xs : List (List UInt8)} (h : xs.Pairwise (· < ·)) (y x : List UInt8) : x ∈ delIS xs y ↔ x ∈ xs ∧ x ≠ y := by
  unfold delIS
  split
  · next hc =>
    have hm : y ∈ xs := by simpa using hc
    have hlt := countP_ltS hm
    obtain ⟨t1, t2⟩ := take_ltS h y
    have hp := h
    rw [← List.take_append_drop (xs.countP (· < y)) xs] at hp
    obtain ⟨p1, p2, p3⟩ := List.pairwise_append.1 hp
    have hd : xs.drop (xs.countP (· < y)) = y :: xs.drop (xs.countP (· < y) + 1) := by
      rw [List.drop_eq_getElem_cons hlt]
      congr 1
      have hy : y ∈ xs.take (xs.countP (· < y)) ++ xs.drop (xs.countP (· < y)) := by rw [List.take_append_drop]; exact hm
      rcases List.mem_append.1 hy with hy | hy
      · exact absurd (t1 y hy) (tirr y)
      · rw [List.drop_eq_getElem_cons hlt] at hy p2 t2
        have a1 := t2 _ (List.mem_cons_self)
        rcases List.mem_cons.1 hy with e | e
        · exact e.symm
        · exact absurd ((List.pairwise_cons.1 p2).1 y e) a1
    rw [hd] at p2
    have p4 := (List.pairwise_cons.1 p2).1
    have e : x ∈ xs ↔ x ∈ xs.take (xs.countP (· < y)) ∨ x = y ∨ x ∈ xs.drop (xs.countP (· < y) + 1) := by
      conv => lhs; rw [← List.take_append_drop (xs.countP (· < y)) xs, hd]
      simp
    rw [e, List.mem_append]
    constructor
    · rintro (h | h)
      · have := t1 x h; exact ⟨.inl h, fun e => by subst e; exact tirr _ this⟩
      · have := p4 x h; exact ⟨.inr (.inr h), fun e => by subst e; exact tirr _ this⟩
    · rintro ⟨h | h | h, h2⟩
      · exact .inl h
      · exact absurd h h2
      · exact .inr h
  · next hc =>
    constructor
    · intro hx; exact ⟨hx, fun e => hc (by subst e; simpa using hx)⟩
    · exact fun hx => hx.1
theorem delI_filterS {xs : List (List UInt8)} (h : xs.Pairwise (· < ·)) (y : List UInt8) : delIS xs y = xs.filter (fun x => decide (x ≠ y)) :=
  up_extS (delI_upS h y) (h.sublist List.filter_sublist) fun x => by rw [delI_memS h]; simp
end Go.Proofs.YtpbobonddocgkaaGreatDoor
end
section
/- Layer 11: mathematics: a map of keys to sets, as the list of its entries; pointers as a map's elements. -/
namespace Go.Proofs.YtpbobonddocgkaaGreatDoor
set_option linter.unusedSectionVars false
open Go Go.RowKit Go.Maps

/-- a set under a key: its block, its row's block, its things -/
structure SetE (β : Type) where
  s : Nat
  ob : Option Nat
  xs : List β
section
variable {α β : Type} [DecidableEq α]
theorem lookM_set (T : List (α × β)) (k : α) (v : β) (j : α) : lookM (setM T k v) j = if j = k then some v else lookM T j := by
  unfold lookM setM
  rw [List.find?_append]
  by_cases e : j = k
  · subst e
    rw [if_pos rfl]
    have : (T.filter fun p => decide (p.1 ≠ j)).find? (fun p => decide (p.1 = j)) = none := by
      rw [List.find?_eq_none]
      intro p hp
      have := (List.mem_filter.1 hp).2
      simpa using this
    rw [this]; simp
  · rw [if_neg e, List.find?_filter]
    have h2 : ([(k, v)] : List (α × β)).find? (fun p => decide (p.1 = j)) = none := by
      simp; exact fun h => e h.symm
    rw [h2, Option.or_none]
    congr 2
    funext a
    by_cases h : a.1 = j
    · simp [h, e]
    · simp [h]
theorem lookM_del (T : List (α × β)) (k j : α) : lookM (delM T k) j = if j = k then none else lookM T j := by
  unfold lookM delM
  by_cases e : j = k
  · subst e
    rw [if_pos rfl]
    have : (T.filter fun p => decide (p.1 ≠ j)).find? (fun p => decide (p.1 = j)) = none := by
      rw [List.find?_eq_none]
      intro p hp
      have := (List.mem_filter.1 hp).2
      simpa using this
    rw [this]; rfl
  · rw [if_neg e, List.find?_filter]
    congr 2
    funext a
    by_cases h : a.1 = j
    · simp [h, e]
    · simp [h]
theorem lookM_memP {T : List (α × β)} {k : α} {v : β} (h : lookM T k = some v) : (k, v) ∈ T := by
  unfold lookM at h
  cases hf : T.find? fun p => decide (p.1 = k) with
  | none => rw [hf] at h; cases h
  | some p =>
    rw [hf] at h
    have h1 := List.mem_of_find?_eq_some hf
    have h2 := List.find?_some hf
    simp at h2 h
    rw [← h2, ← h]; exact h1
theorem mem_lookM : ∀ {T : List (α × β)}, (T.map (·.1)).Nodup → ∀ {p : α × β}, p ∈ T → lookM T p.1 = some p.2
  | [], _, _, h => by cases h
  | a :: r, hn, p, hp => by
    rw [List.map_cons, List.nodup_cons] at hn
    rcases List.mem_cons.1 hp with rfl | hp
    · simp [lookM]
    · have hne : a.1 ≠ p.1 := fun e => hn.1 (e ▸ List.mem_map_of_mem hp)
      have := mem_lookM hn.2 hp
      unfold lookM at this ⊢
      rw [List.find?_cons_of_neg (by simpa using hne)]
      exact this
theorem mem_setM {T : List (α × β)} {k : α} {v : β} {p : α × β} : p ∈ setM T k v ↔ (p ∈ T ∧ p.1 ≠ k) ∨ p = (k, v) := by
  unfold setM
  rw [List.mem_append, List.mem_filter]
  simp
theorem mem_delM {T : List (α × β)} {k : α} {p : α × β} : p ∈ delM T k ↔ p ∈ T ∧ p.1 ≠ k := by
  unfold delM
  rw [List.mem_filter]
  simp
end
section
variable {α β : Type} [DecidableEq α]
/-- the sets' blocks alone -/
def kp (T : List (α × SetE β)) : List (α × Nat) := T.map fun p => (p.1, p.2.s)
theorem kp_len (T : List (α × SetE β)) : (kp T).length = T.length := by unfold kp; simp
theorem kp_set (T : List (α × SetE β)) (k : α) (e : SetE β) : kp (setM T k e) = setM (kp T) k e.s := by
  unfold kp setM
  rw [List.map_append, List.filter_map]
  rfl
theorem kp_del (T : List (α × SetE β)) (k : α) : kp (delM T k) = delM (kp T) k := by
  unfold kp delM
  rw [List.filter_map]
  rfl
theorem kp_look (T : List (α × SetE β)) (k : α) : lookM (kp T) k = (lookM T k).map (·.s) := by
  unfold kp lookM
  rw [List.find?_map]
  simp [Function.comp_def]
/-- what stands under a key -/
def lk (T : List (α × SetE β)) (k : α) : List β := match lookM T k with | some e => e.xs | none => []
theorem lk_set (T : List (α × SetE β)) (k : α) (e : SetE β) (j : α) : lk (setM T k e) j = if j = k then e.xs else lk T j := by
  unfold lk
  rw [lookM_set]
  by_cases h : j = k
  · rw [if_pos h, if_pos h]
  · rw [if_neg h, if_neg h]
theorem lk_del (T : List (α × SetE β)) (k j : α) : lk (delM T k) j = if j = k then [] else lk T j := by
  unfold lk
  rw [lookM_del]
  by_cases h : j = k
  · rw [if_pos h, if_pos h]
  · rw [if_neg h, if_neg h]
/-- the blocks of a map of sets -/
def BlP (b : Nat) (T : List (α × SetE β)) (j : Nat) : Prop := j = b ∨ ∃ p ∈ T, j = p.2.s ∨ p.2.ob = some j
/-- two sets lie apart -/
def AprE (e f : SetE β) : Prop := e.s ≠ f.s ∧ e.ob ≠ some f.s ∧ f.ob ≠ some e.s ∧ ∀ g, e.ob = some g → f.ob ≠ some g
theorem AprE.symm {e f : SetE β} (h : AprE e f) : AprE f e := ⟨fun e => h.1 e.symm, h.2.2.1, h.2.1, fun g h1 h2 => h.2.2.2 g h2 h1⟩
def AprT (T : List (α × SetE β)) : Prop := ∀ p ∈ T, ∀ q ∈ T, p.1 ≠ q.1 → AprE p.2 q.2
theorem aprT_set {T : List (α × SetE β)} (h : AprT T) {k : α} {e : SetE β} (he : ∀ p ∈ T, p.1 ≠ k → AprE p.2 e) : AprT (setM T k e) := by
  intro p hp q hq hne
  rcases mem_setM.1 hp with ⟨hp, hpk⟩ | rfl
  · rcases mem_setM.1 hq with ⟨hq, hqk⟩ | rfl
    · exact h p hp q hq hne
    · exact he p hp hpk
  · rcases mem_setM.1 hq with ⟨hq, hqk⟩ | rfl
    · exact (he q hq hqk).symm
    · exact absurd rfl hne
theorem aprT_del {T : List (α × SetE β)} (h : AprT T) (k : α) : AprT (delM T k) := fun p hp q hq hne => h p (mem_delM.1 hp).1 q (mem_delM.1 hq).1 hne
end
/-- how a pointer to a set reads -/
def ptrE : Value → Option (DataW Unit × List MemPlace)
  | .pointer none => some (.lit (.int .i64 (-1)), [])
  | .pointer (some ⟨s, 0, none⟩) => some (.lit (.int .i64 s), [])
  | _ => none
def vP (s : Nat) : DataW Unit := .lit (.int .i64 s)
theorem vP_inj : ∀ a b : Nat, vP a = vP b → a = b := fun a b h => by
  have h2 : ((a : Nat) : Int) = ((b : Nat) : Int) := by
    unfold vP at h
    injection h with h
    injection h
  omega
theorem ptrE_inv {v : Value} {d : Int} {ps : List MemPlace} (h : ptrE v = some (.lit (.int .i64 d), ps)) : (v = .pointer none ∧ d = -1) ∨ ∃ s : Nat, v = .pointer (some ⟨s, 0, none⟩) ∧ d = s := by
  unfold ptrE at h
  split at h
  · simp at h; exact .inl ⟨rfl, h.1.symm⟩
  · rename_i s; simp at h; exact .inr ⟨s, rfl, h.1.symm⟩
  · cases h
theorem owns_sameP {H : Type} {P : Program} {k : TypeId} {R : Value → Option (DataW H × List MemPlace)} {w w' : World} {b n : Nat} {D : DataW H} (h : w.ownsMap P k R b n D) (he : w'.heap[b]? = w.heap[b]?) : w'.ownsMap P k R b n D := by
  obtain ⟨es, clock, h1, h2⟩ := h
  exact ⟨es, clock, he.trans h1, h2⟩
theorem owns_tightP {H : Type} {P : Program} {k : TypeId} {R : Value → Option (DataW H × List MemPlace)} {w : World} {b n : Nat} {D : DataW H} (h : w.ownsMap P k R b n D) : w.ownsMap P k R b (Maps.size D) D := by
  obtain ⟨es, clock, h1, h2, h3, rfl⟩ := h
  refine ⟨es, clock, h1, h2, ?_, rfl⟩
  rw [Maps.size_eq, length_sorted]; simp
theorem row_baseP {W : World} {base base' n sz : Nat} {T : TypeId} {v : Value} {xs : List Value} (h : W.ownsRow base T sz v n xs) (hb : base' ≤ base) : W.ownsRow base' T sz v n xs := by
  obtain ⟨h1, h2⟩ := h
  refine ⟨h1, ?_⟩
  rcases h2 with h2 | ⟨g, cap, cur, h3, h4, h5⟩
  · exact .inl h2
  · exact .inr ⟨g, cap, cur, h3, by omega, h5⟩
theorem set_of_none (w : World) : Calls Tryz.prog 90 #[.slice none 0 0] w (OfP [] w) := by
  have e : normI [] = [] := by simp [normI, Lib.compact, Lib.compactUpTo]
  have := set_of (w := w) none [] 0 (by simp) (fun h => absurd h (by simp)) (by rw [e]; exact List.Pairwise.nil)
  rw [e] at this
  exact this
theorem setM_setM {α β : Type} [DecidableEq α] (T : List (α × β)) (k : α) (u v : β) : setM (setM T k u) k v = setM T k v := by
  unfold setM
  rw [List.filter_append, List.filter_filter]
  simp
theorem nodup_len {γ : Type} [DecidableEq γ] : ∀ {A B : List γ}, A.Nodup → (∀ x ∈ A, x ∈ B) → A.length ≤ B.length
  | [], _, _, _ => Nat.zero_le _
  | a :: r, B, hn, hs => by
    rw [List.nodup_cons] at hn
    have ha := hs a (List.mem_cons_self ..)
    have h2 := nodup_len (A := r) (B := B.erase a) hn.2 fun x hx => (List.mem_erase_of_ne (show x ≠ a from fun e => hn.1 (by rw [← e]; exact hx))).2 (hs x (List.mem_cons_of_mem _ hx))
    have h3 := List.length_erase_of_mem ha
    have h4 := List.length_pos_of_mem ha
    rw [List.length_cons]
    omega
/-- the keys of a map of sets, none empty, are no more than the pairs -/
theorem keys_le {α β : Type} [DecidableEq α] [DecidableEq β] {T : List (α × SetE β)} {L : List (α × β)} (hn : (T.map (·.1)).Nodup) (hne : ∀ p ∈ T, p.2.xs ≠ []) (h : ∀ a b, b ∈ lk T a → (a, b) ∈ L) : T.length ≤ L.length := by
  have h1 := nodup_len (A := T.map (·.1)) (B := L.map (·.1)) hn fun x hx => by
    obtain ⟨p, hp, rfl⟩ := List.mem_map.1 hx
    obtain ⟨b, hb⟩ := List.exists_mem_of_ne_nil _ (hne p hp)
    have hl : lk T p.1 = p.2.xs := by unfold lk; rw [mem_lookM hn hp]
    exact List.mem_map.2 ⟨(p.1, b), h _ _ (hl ▸ hb), rfl⟩
  simpa using h1
theorem lk_le {α β : Type} [DecidableEq α] [DecidableEq β] {xs : List β} {a : α} {L : List (α × β)} (hn : xs.Nodup) (h : ∀ b, b ∈ xs → (a, b) ∈ L) : xs.length ≤ L.length := by
  have h1 := nodup_len (A := xs.map fun b => (a, b)) (B := L) (List.Pairwise.map _ (fun _ _ h e => h (Prod.mk.inj e).2) hn) fun x hx => by
    obtain ⟨b, hb, rfl⟩ := List.mem_map.1 hx
    exact h b hb
  simpa using h1
theorem up_nodup {xs : List Int} (h : xs.Pairwise (· < ·)) : xs.Nodup := h.imp fun h e => by subst e; exact absurd h (Int.lt_irrefl _)
theorem up_nodupS {xs : List (List UInt8)} (h : xs.Pairwise (· < ·)) : xs.Nodup := h.imp fun h e => by subst e; exact tirr _ h
theorem len_setP {α β : Type} [DecidableEq α] (T : List (α × β)) (k : α) (v : β) : (setM T k v).length ≤ T.length + 1 := by
  unfold setM
  rw [List.length_append, List.length_singleton]
  have := List.length_filter_le (fun p : α × β => decide (p.1 ≠ k)) T
  omega
end Go.Proofs.YtpbobonddocgkaaGreatDoor
end
