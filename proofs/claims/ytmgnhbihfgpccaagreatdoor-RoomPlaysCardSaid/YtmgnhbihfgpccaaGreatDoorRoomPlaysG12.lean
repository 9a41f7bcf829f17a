/- Texts of this proof, one behind the other. -/
import Derived.Test.YtmgnhbihfgpccaaGreatDoorRoomPlaysG11
import Derived.Test.YtmgnhbihfgpccaaGreatDoorRoomPlaysG5
import Derived.Test.YtmgnhbihfgpccaaGreatDoorRoomPlaysG3
import Derived.Shelf.Spec.SearchS
import Derived.Below
import Derived.Carry
import Derived.Deep.Strs
import Derived.ChangeSame
import Derived.DataReads
import Derived.ProofKit
import Derived.OpenShut
import Derived.Test.YtmgnhbihfgpccaaGreatDoorRoomPlaysG1
import Derived.Test.YtmgnhbihfgpccaaGreatDoorRoomPlaysG2
set_option linter.unusedVariables false
set_option linter.unusedSimpArgs false
section
/- Layer 4: contracts in one form; glob.Any, Hits; awake. -/
namespace Go.Proofs.YtmgnhbihfgpccaaGreatDoor
open Go.RowKit

theorem bjoin {B : Nat} {w w1 w2 : World} (h : Below B w w1) (hB : B ≤ w.heap.size) (k : Below w1.heap.size w1 w2) : Below B w w2 := h.trans (k.mono (Nat.le_trans hB h.size))
theorem below_of_drewN {w w' : World} (h : ∃ n, w' = w.drewN n) : Below w.heap.size w w' := by
  obtain ⟨n, rfl⟩ := h
  exact ⟨rfl, rfl, rfl, Nat.le_refl _, fun _ _ => rfl⟩
theorem compB_glob (s : ByteArray) (w : World) (hs : s.size ≤ 1000000) :
    Calls Tryz.prog 77 #[.string s] w fun e w' => e = .returned (.string (bs (compS s))) ∧ Below w.heap.size w w' :=
  (comp_glob s w hs).mono fun e w' ⟨⟨r, h1, h2⟩, h3⟩ => ⟨by rw [h1]; exact ret_str (ba_ext (by rw [h2]; simp)), below_of_drewN h3⟩
theorem compB_ref (s : ByteArray) (w : World) (hs : s.size ≤ 1000000) :
    Calls Tryz.prog 96 #[.string s] w fun e w' => e = .returned (.string (bs (compS s))) ∧ Below w.heap.size w w' :=
  (comp_ref s w hs).mono fun e w' ⟨⟨r, h1, h2⟩, h3⟩ => ⟨by rw [h1]; exact ret_str (ba_ext (by rw [h2]; simp)), below_of_drewN h3⟩


theorem matchB (m s : ByteArray) (w : World) (hm : m.size ≤ 1000000) (hs : s.size ≤ 1000000) :
    Calls Tryz.prog 90 #[.string m, .string s] w fun e w' => e = .returned (.bool (mm m.data.toList s.data.toList)) ∧ Below w.heap.size w w' :=
  (match_any m s w hm hs).mono fun e w' ⟨h1, h3⟩ => ⟨h1, below_of_drewN h3⟩






theorem starL_len (l : List UInt8) : (starL l).length ≤ l.length + 1 := by
  unfold starL
  split <;> simp
theorem join_len (n u h : List UInt8) : (joinL n u h).length ≤ n.length + u.length + h.length + 5 := by
  have h1 := starL_len n; have h2 := starL_len u; have h3 := starL_len h
  unfold joinL
  simp only [List.length_append, List.length_cons, List.length_nil]; omega
theorem comp_len (s : ByteArray) : (bs (compS s)).size ≤ 3 * s.size + 5 := by
  rw [bs_size]
  have he : ∀ a b, (s.extract a b).data.toList.length ≤ s.size := fun a b => by rw [len_ba]; simp [ByteArray.size_extract]; omega
  unfold compS
  simp only []
  split
  · split
    · refine Nat.le_trans (join_len _ _ _) ?_; rw [len_ba]; simp; omega
    · refine Nat.le_trans (join_len _ _ _) ?_; have := he 0 (Lib.indexByte s.data.toList 33).toNat; have := he ((Lib.indexByte s.data.toList 33).toNat + 1) s.size; simp only [List.length_nil]; omega
  · split
    · refine Nat.le_trans (join_len _ _ _) ?_; have := he 0 (Lib.indexByte s.data.toList 64).toNat; have := he ((Lib.indexByte s.data.toList 64).toNat + 1) s.size; simp only [List.length_nil]; omega
    · refine Nat.le_trans (join_len _ _ _) ?_; have := he 0 (Lib.indexByte s.data.toList 33).toNat; have := he ((Lib.indexByte s.data.toList 33).toNat + 1) (Lib.indexByte s.data.toList 64).toNat; have := he ((Lib.indexByte s.data.toList 64).toNat + 1) s.size; omega

end Go.Proofs.YtmgnhbihfgpccaaGreatDoor
end
section
/- Layer 19: where a ban stands: slices.IndexFunc with fold.Same. -/
namespace Go.Proofs.YtmgnhbihfgpccaaGreatDoor
open Go Go.RowKit

/-- where a ban that is alike stands; -1: nowhere -/
def ixB : List (List UInt8) → List UInt8 → Int
  | [], _ => -1
  | a :: l, m => if sameF a m then 0 else if ixB l m < 0 then -1 else ixB l m + 1
theorem ixB_lt : ∀ (l : List (List UInt8)) (m : List UInt8), -1 ≤ ixB l m ∧ ixB l m < l.length
  | [], _ => by simp [ixB]
  | a :: l, m => by
    have := ixB_lt l m
    unfold ixB
    split
    · simp
    · split <;> simp <;> omega
theorem ixB_first : ∀ {l : List (List UInt8)} {m : List UInt8} {k : Nat} (h : k < l.length), sameF l[k] m = true → (∀ j (hj : j < k), sameF (l[j]'(by omega)) m = false) → ixB l m = k
  | [], _, _, h, _, _ => absurd h (Nat.not_lt_zero _)
  | a :: l, m, 0, _, h1, _ => by unfold ixB; rw [if_pos (by simpa using h1)]; rfl
  | a :: l, m, k + 1, h, h1, h2 => by
    have ih := ixB_first (l := l) (m := m) (k := k) (by simpa using h) (by simpa using h1) (fun j hj => by simpa using h2 (j + 1) (by omega))
    have h0 : sameF a m = false := by simpa using h2 0 (by omega)
    unfold ixB
    rw [if_neg (by rw [h0]; simp), if_neg (by omega)]
    omega
theorem ixB_none : ∀ {l : List (List UInt8)} {m : List UInt8}, (∀ j (hj : j < l.length), sameF l[j] m = false) → ixB l m = -1
  | [], _, _ => rfl
  | a :: l, m, h => by
    have ih := ixB_none (l := l) (m := m) fun j hj => h (j + 1) (Nat.succ_lt_succ hj)
    have h0 : sameF a m = false := h 0 (by simp)
    unfold ixB
    rw [if_neg (by rw [h0]; simp), if_pos (by omega)]
theorem ixB_yes : ∀ {l : List (List UInt8)} {m : List UInt8} {k : Nat}, ixB l m = k → ∃ h : k < l.length, sameF l[k] m = true ∧ ∀ j (hj : j < k), sameF (l[j]'(by omega)) m = false
  | [], m, k, h => by unfold ixB at h; omega
  | a :: l, m, k, h => by
    unfold ixB at h
    by_cases e : sameF a m = true
    · rw [if_pos e] at h
      obtain rfl : k = 0 := by omega
      exact ⟨by simp, e, fun j hj => by omega⟩
    · rw [if_neg e] at h
      by_cases c : ixB l m < 0
      · rw [if_pos c] at h; omega
      · rw [if_neg c] at h
        obtain ⟨k', rfl⟩ : ∃ k', k = k' + 1 := ⟨k - 1, by omega⟩
        obtain ⟨h1, h2, h3⟩ := ixB_yes (l := l) (m := m) (k := k') (by omega)
        refine ⟨by simpa using h1, by simpa using h2, fun j hj => ?_⟩
        cases j with
        | zero => simpa using e
        | succ j => simpa using h3 j (by omega)
theorem ban_is (a : List UInt8) (m : List UInt8) (bx : Nat) (w : World) (hb : w.cell? ⟨bx, 0, none⟩ = some (.string (bs m))) (ha : a.length ≤ 1000000) (hm : m.length ≤ 1000000) :
    Calls Tryz.prog 80 #[.string (bs a), .pointer (some ⟨bx, 0, none⟩)] w fun e w' => e = .returned (.bool (sameF a m)) ∧ Below w.heap.size w w' := by
  have HS := Lib.hid (same_any (bs a) (bs m) w (by simpa using ha) (by simpa using hm))
  obtain ⟨b, hbb⟩ : ∃ b, sameF a m = b := ⟨_, rfl⟩
  have hbb' : sameF (bs a).data.toList (bs m).data.toList = b := hbb
  rw [hbb'] at HS
  rw [hbb]
  clear hbb hbb'
  go_enter Tryz.func80, Tryz.ntmps80
  go_wp2_with fail
  refine HS.out.mono ?_
  rintro e w1 ⟨rfl, hw⟩
  have HW := Lib.hid (below_of_drewN hw)
  clear hw
  go_wp2_with fail
  go_ret
  exact ⟨rfl, HW.out⟩
set_option maxRecDepth 100000 in
set_option maxHeartbeats 4000000 in
theorem indexFunc_any (A : Option Addr) (c : Nat) (xs : List (List UInt8)) (m : List UInt8) (bx : Nat) (w : World) (hR : ReadsT w A xs) (hb : w.cell? ⟨bx, 0, none⟩ = some (.string (bs m))) (hbl : bx < w.heap.size) (hl : xs.length ≤ 1000000) (hx : ∀ x ∈ xs, x.length ≤ 1000000) (hm : m.length ≤ 1000000) :
    Calls Tryz.prog 79 #[.slice A xs.length c, .func (.func 80) #[] #[.pointer (some ⟨bx, 0, none⟩)]] w fun e w' => e = .returned (.int .i64 (ixB xs m)) ∧ Below w.heap.size w w' := by
  have HR := Lib.hid (And.intro hR (And.intro hb (And.intro hbl (And.intro hx hm))))
  clear hR hb hbl hx hm
  go_enter Tryz.func79, Tryz.ntmps79
  go_wp2_with fail
  go_loopw [8] (fun s wr => ∃ k : Nat, k ≤ xs.length ∧ s = .int .i64 k ∧ Hid (∀ j (hj : j < xs.length), j < k → sameF xs[j] m = false) ∧ Hid (Below w.heap.size w wr)) (fun s _ => xs.length - (Go.RowKit.intOf s).toNat)
  case atStart => exact ⟨0, Nat.zero_le _, rfl, Lib.hid fun _ _ h => absurd h (Nat.not_lt_zero _), Lib.hid (Below.refl _ _)⟩
  case round =>
    obtain ⟨k, hk, rfl, HA, HB⟩ := hrel
    by_cases hlt : k < xs.length
    · obtain ⟨g, o, rfl, hg, hc⟩ := HR.out.1 (by omega)
      have e0 := (HB.out.cell (p := ⟨g, o + k, none⟩) hg).trans (hc k hlt)
      have hbx := (HB.out.cell (p := ⟨bx, 0, none⟩) HR.out.2.2.1).trans HR.out.2.1
      have HC := Lib.hid (ban_is xs[k] m bx wr hbx (HR.out.2.2.2.1 _ (List.getElem_mem hlt)) HR.out.2.2.2.2)
      obtain ⟨y, hy⟩ : ∃ y, bs xs[k] = y := ⟨_, rfl⟩
      rw [hy] at e0 HC
      clear hc hy hg hbx
      cases hs : sameF xs[k] m with
      | true =>
        rw [hs] at HC
        have HE := Lib.hid (ixB_first hlt hs fun j hj => HA.out j (by omega) hj)
        clear hs
        go_wp2_with fail
        refine HC.out.mono ?_
        rintro e w1 ⟨rfl, hb1⟩
        have HB1 := Lib.hid (HB.out.trans (hb1.mono HB.out.size))
        clear hb1
        go_wp2_with fail
        go_ret
        exact ⟨by rw [HE.out]; rfl, HB1.out⟩
      | false =>
        rw [hs] at HC
        have HE := Lib.hid hs
        clear hs
        go_wp2_with fail
        refine HC.out.mono ?_
        rintro e w1 ⟨rfl, hb1⟩
        have HB1 := Lib.hid (HB.out.trans (hb1.mono HB.out.size))
        clear hb1
        go_wp2_with fail
        refine ⟨⟨k + 1, by omega, by push_cast; rfl, Lib.hid fun j h hj => ?_, HB1⟩, by simp only [Go.RowKit.intOf]; omega⟩
        rcases Nat.lt_succ_iff_lt_or_eq.1 hj with h1 | rfl
        · exact HA.out j h h1
        · exact HE.out
    · obtain rfl : k = xs.length := by omega
      have HE := Lib.hid (ixB_none fun j hj => HA.out j hj hj)
      go_wp2_with fail
      go_ret
      exact ⟨by rw [HE.out]; rfl, HB.out⟩
end Go.Proofs.YtmgnhbihfgpccaaGreatDoor
end
section
/- Sets of texts: the library's functions at rows of texts of the call's own: BinarySearch, Clone, Delete; Sort and CompactFunc of none. -/
namespace Go.Proofs.YtmgnhbihfgpccaaGreatDoor
open Go Go.RowKit Go.Lib Go.Sort Go.Shelf

theorem tirr (a : List UInt8) : ¬ a < a := List.lt_irrefl a
theorem ttr {a b c : List UInt8} (h : a < b) (k : b < c) : a < c := List.lt_trans h k
theorem ttri (a b : List UInt8) : a < b ∨ a = b ∨ b < a := by
  by_cases h : a < b
  · exact .inl h
  · by_cases h2 : b < a
    · exact .inr (.inr h2)
    · exact .inr (.inl (List.le_antisymm (List.not_lt.1 h2) (List.not_lt.1 h)))
theorem tless (x y : List UInt8) : Op.bytesLess (bs x).toList (bs y).toList = decide (x < y) := by rw [ByteArray.toList_eq, ByteArray.toList_eq]; exact bytesLess_eq x y
/-- below which place the lesser ones stand -/
theorem count_split : ∀ {xs : List (List UInt8)}, xs.Pairwise (· < ·) → ∀ (x : List UInt8) (t : Nat) (h : t < xs.length), xs[t] < x ↔ t < xs.countP (· < x)
  | [], _, _, _, h => by simp at h
  | a :: xs, hp, x, t, h => by
    rw [List.pairwise_cons] at hp
    by_cases c : a < x
    · rw [List.countP_cons_of_pos (by simpa using c)]
      cases t with
      | zero => simp [c]
      | succ t =>
        rw [List.getElem_cons_succ, count_split hp.2 x t (by simpa using h)]
        omega
    · have hz : (a :: xs).countP (· < x) = 0 := by
        rw [List.countP_eq_zero]
        intro y hy
        rcases List.mem_cons.1 hy with rfl | hy
        · simpa using c
        · have := hp.1 y hy
          simp only [decide_eq_true_eq]
          exact fun e => c (ttr this e)
      rw [hz]
      refine ⟨fun e => ?_, fun e => by omega⟩
      exfalso
      cases t with
      | zero => exact c e
      | succ t =>
        rw [List.getElem_cons_succ] at e
        exact c (ttr (hp.1 _ (List.getElem_mem _)) e)
theorem count_mem {xs : List (List UInt8)} (hp : xs.Pairwise (· < ·)) (x : List UInt8) : (∃ h : xs.countP (· < x) < xs.length, xs[xs.countP (· < x)] = x) ↔ x ∈ xs := by
  constructor
  · rintro ⟨h, e⟩; rw [← e]; exact List.getElem_mem h
  · intro hm
    obtain ⟨t, ht, e⟩ := List.getElem_of_mem hm
    have h1 : ¬ t < xs.countP (· < x) := fun c => by
      have := (count_split hp x t ht).2 c
      rw [e] at this; exact tirr _ this
    have h2 : ∀ u (hu : u < xs.length), u < t → u < xs.countP (· < x) := fun u hu hut => (count_split hp x u hu).1 (by
      rw [← e]
      exact List.pairwise_iff_getElem.1 hp u t hu ht hut)
    have h3 : xs.countP (· < x) = t := by
      rcases Nat.lt_or_ge (xs.countP (· < x)) t with c | c
      · have := h2 (xs.countP (· < x)) (by omega) c; omega
      · omega
    rw [h3] at *
    exact ⟨ht, by simpa [h3] using e⟩
theorem ownT_cell {base : Nat} {w : World} {A : Option Addr} {n c : Nat} {xs : List (List UInt8)} (h : OwnT base w (.slice A n c) xs) (hx : 0 < xs.length) : ∃ g cap cur, A = some ⟨g, 0, none⟩ ∧ n = xs.length ∧ c = cap ∧ base ≤ g ∧ w.heap[g]? = some (.cells cur 9 (0, 0)) ∧ xs.length ≤ cap ∧ cap ≤ maxLen ∧ cur.size = cap ∧ cur.toList.take xs.length = xs.map encT ∧ ∀ j (hj : j < xs.length), w.cell? ⟨g, j, none⟩ = some (encT xs[j]) := by
  rcases h.2 with ⟨hv, h0⟩ | ⟨g, cap, cur, hv, hb, hg, hn, hm, hs, ht⟩
  · omega
  · injection hv with q1 q2 q3
    rw [Nat.mul_one] at ht hs
    refine ⟨g, cap, cur, q1, q2, q3, hb, hg, hn, hm, hs, ht, fun j hj => ?_⟩
    have h1 : (cur.toList.take xs.length)[j]? = (xs.map encT)[j]? := by rw [ht]
    rw [List.getElem?_take_of_lt hj, Array.getElem?_toList] at h1
    rw [blk_cell hg j, h1]; simp [hj]

theorem clone_ownS {base : Nat} {w : World} {v : Value} {xs : List (List UInt8)} (h : OwnT base w v xs) (hl : xs.length ≤ 1000000) :
    Calls Tryz.prog 65 #[v] w fun e w' => (∃ v', e = .returned v' ∧ OwnT w.heap.size w' v' xs) ∧ Below w.heap.size w w' := by
  rcases h.2 with ⟨rfl, h0⟩ | ⟨g, cap, cur, rfl, hb, hg, hn, hm, hcs, ht⟩
  · obtain rfl : xs = [] := List.length_eq_zero_iff.1 h0
    refine (Tryz.slices_Clone_string_nil 0 0 w).mono ?_
    rintro e w' ⟨rfl, rfl⟩
    exact ⟨⟨_, rfl, ownT_nil _ _⟩, Below.refl _ _⟩
  · rw [Nat.mul_one] at ht
    refine (Tryz.slices_Clone_string g 0 xs.length cap (xs.map bs) w (by simp) (by omega) (fun j hj => by
      have hj2 : j < xs.length := by simpa using hj
      have h1 : (cur.toList.take xs.length)[j]? = (xs.map encT)[j]? := by rw [ht]
      rw [List.getElem?_take_of_lt hj2, Array.getElem?_toList] at h1
      rw [Nat.zero_add, blk_cell hg j, h1]
      simp [List.getD, hj2, encT])).mono ?_
    rintro e w' ⟨v', rfl, hr, _, hbl⟩
    refine ⟨⟨v', rfl, ?_⟩, hbl⟩
    have e1 : ((xs.map bs).take xs.length).map Value.string = xs.map encT := by
      rw [List.take_of_length_le (by simp), List.map_map]; rfl
    rw [e1] at hr
    exact hr
theorem take_of_getS {cur : Array Value} {ys : List (List UInt8)} (hs : ys.length ≤ cur.size) (h : ∀ j (hj : j < ys.length), cur[j]? = some (encT ys[j])) : cur.toList.take ys.length = ys.map encT := by
  apply List.ext_getElem?
  intro j
  by_cases hj : j < ys.length
  · rw [List.getElem?_take_of_lt hj, Array.getElem?_toList, h j hj]; simp [hj]
  · rw [List.getElem?_take_eq_none (by omega), List.getElem?_eq_none (by simp; omega)]
theorem delete_ownS {base : Nat} {w : World} {v : Value} {xs : List (List UInt8)} (h : OwnT base w v xs) (hl : xs.length ≤ 1000000) (i : Nat) (hi : i < xs.length) :
    Calls Tryz.prog 82 #[v, .int .i64 i, .int .i64 (i + 1 : Nat)] w fun e w' => (∃ v', e = .returned v' ∧ OwnT base w' v' (xs.take i ++ xs.drop (i + 1)) ∧ Tie w v v') ∧ Fr (vB v) w w' := by
  obtain ⟨A, c, rfl⟩ := row_slice h
  obtain ⟨g, cap, cur, rfl, _, rfl, hb, hg, hn, hm, hcs, ht, hc⟩ := ownT_cell h (by omega)
  have hq := Tryz.slices_Delete_string_cells g 0 xs.length c i (i + 1) (fun t => bs (xs.getD t [])) w hn (by unfold maxLen at hm; omega) (by omega) (by omega) (fun j hj => by
    rw [Nat.zero_add, hc j hj]; simp [List.getD, hj, encT]) (fun j hj => blk_free hg _)
  refine hq.mono ?_
  rintro e w' ⟨rfl, q, rfl⟩
  have hst : Lib.strsOf (fun t => bs (xs.getD t [])) xs.length = xs := by
    refine List.ext_getElem (by simp [Lib.strsOf]) fun j h1 h2 => ?_
    simp [Lib.strsOf, h2]
  rw [hst]
  have hlen : (xs.take i ++ xs.drop (i + 1)).length = xs.length - 1 := by simp; omega
  obtain ⟨cur', h1, h2, h3⟩ := heap_setCells (b := g) ((xs.take i ++ xs.drop (i + 1) ++ List.replicate (i + 1 - i) []).map encStr) 0 (w.drewN q) cur hg
  refine ⟨⟨_, rfl, ⟨by simp, .inr ⟨g, c, cur', ?_, hb, h1, by omega, hm, by omega, ?_⟩⟩, tie_same rfl⟩, fr_setCells (X := vB (.slice (some ⟨g, 0, none⟩) xs.length c)) (.inl (by rfl)) _ _ _ ((Fr.refl _ w).drewN q)⟩
  · rw [hlen, show xs.length - (i + 1 - i) = xs.length - 1 by omega]
  · rw [Nat.mul_one]
    refine take_of_getS (by omega) fun j hj => ?_
    rw [h3 j, if_pos ⟨by omega, by simp at hj ⊢; omega, by omega⟩, Nat.sub_zero, List.getElem?_map, List.getElem?_append_left hj, List.getElem?_eq_getElem hj]
    rfl
theorem own_getS {base : Nat} {w : World} {g cap : Nat} {xs : List (List UInt8)} {cur : Array Value} {T : TypeId} (hg : w.heap[g]? = some (.cells cur T (0, 0))) (ht : cur.toList.take xs.length = xs.map encT) (j : Nat) (hj : j < xs.length) : cur[j]? = some (encT xs[j]) := by
  have h1 : (cur.toList.take xs.length)[j]? = (xs.map encT)[j]? := by rw [ht]
  rw [List.getElem?_take_of_lt hj, Array.getElem?_toList] at h1
  rw [h1]; simp [hj]
theorem string_cells (xs : List (List UInt8)) : ∀ u ∈ xs.map encT, u.oneCell' = true := by
  intro u hu
  obtain ⟨x, _, rfl⟩ := List.mem_map.1 hu
  rfl
end Go.Proofs.YtmgnhbihfgpccaaGreatDoor
end
section
/- A law's arguments: slices of texts, of structs, opened; what was only read reads as it read. -/
namespace Go.Proofs.YtmgnhbihfgpccaaGreatDoor
open Go Go.ChangeShapes Go.WideShapes Go.RowKit Go.Deep

section
variable {H : Type} {enc : TypeId × Value → H} {P : Program} {W W' : World}

/-- is each of these types one that can be read again? -/
def readAll (P : Program) (ts : List TypeId) : Bool := ts.all fun t => P.readableRec t && decide (t < P.types.size)
theorem stays_all (hl : laidOutB P = true) (hB : Below W.heap.size W W') {sp : Nat → Bool} : ∀ (ts : List TypeId) (vs : List Value) (ds : List (DataW H)) (ps : List MemPlace), readAll P ts = true →
    DataW.TrodAll enc P W 0 (fun _ => true) true ts vs ds ps → (∀ x ∈ ps, x.block < W.heap.size) → (∀ x ∈ ps, sp x.block = true) → DataW.TrodAll enc P W' 0 sp true ts vs ds ps
  | [], vs, ds, ps, _, h, _, _ => by
    obtain ⟨rfl, rfl, rfl⟩ := trodAll_nil h
    exact trodAll_mk0
  | t :: ts, vs, ds, ps, hr, h, hlt, hs => by
    obtain ⟨v, vs1, d, ds1, p, q, rfl, rfl, rfl, h1, h2⟩ := trodAll_cons h
    unfold readAll at hr
    rw [List.all_cons, Bool.and_eq_true, Bool.and_eq_true] at hr
    obtain ⟨⟨hr1, hr2⟩, hr3⟩ := hr
    refine trodAll_cons_mk ?_ (stays_all hl hB ts vs1 ds1 q hr3 h2 (fun x hx => hlt x (by simp [hx])) (fun x hx => hs x (by simp [hx])))
    exact WideElems.Trod_stays hl hr1 (of_decide_eq_true hr2) h1 (fun x hx => hB.same (hlt x (by simp [hx]))) (fun x hx => hs x (by simp [hx]))

theorem spot_of {a : Addr} {v : Value} (h : W.cell? (a.add 0) = some v) : ∃ g o, a = ⟨g, o, none⟩ := by
  have := World.cell?_spot h
  obtain ⟨g, o, s⟩ := a
  simp [Addr.add] at this
  subst this
  exact ⟨g, o, rfl⟩
theorem add_at (g o n : Nat) : (⟨g, o, none⟩ : Addr).add n = ⟨g, o + n, none⟩ := by
  unfold Addr.add
  split
  · simp_all
  · rfl

theorem open_texts {t e : TypeId} {base : Nat} {v : Value} {d : DataW H} {p : List MemPlace} (ht : P.underlying t = some (.slice e)) (he : P.underlying e = some .string) (hc : P.cellsOf e = 1)
    (hval : Value.okWide P W .any base t v) (h : DataW.Trod enc P W 0 (fun _ => true) true t v d p) :
    ∃ (A : Option Addr) (ss : List ByteArray) (c : Nat), v = .slice A ss.length c ∧ ss.length ≤ c ∧ c ≤ maxLen ∧ (∀ s ∈ ss, s.size ≤ maxLen) ∧ (0 < ss.length → ∃ g o, A = some ⟨g, o, none⟩ ∧ ∀ i (h : i < ss.length), W.cell? ⟨g, o + i, none⟩ = some (.string ss[i])) := by
  obtain ⟨A, n, c, rfl⟩ := okWide_slice ht hval
  obtain ⟨fuel, hf⟩ := h
  rcases open_strs ht he hc hf with ⟨hcs, _⟩ | ⟨a, len, cap, m, Sx, hcs, _, hl, hm, hmm, _, hcell⟩
  · have h3 : A = none ∧ n = 0 ∧ c = 0 := by simpa [Value.cells] using hcs
    obtain ⟨rfl, rfl, rfl⟩ := h3
    exact ⟨none, [], 0, rfl, Nat.le_refl _, by unfold maxLen; omega, by simp, fun h => absurd h (by simp)⟩
  · have h3 : A = some a ∧ n = len ∧ c = cap := by simpa [Value.cells] using hcs
    obtain ⟨rfl, rfl, rfl⟩ := h3
    simp only [if_true] at hmm
    refine ⟨some a, (List.range n).map Sx, c, by simp, by simpa using hl, hm, ?_, ?_⟩
    · intro s hs
      simp only [List.mem_map, List.mem_range] at hs
      obtain ⟨i, hi, rfl⟩ := hs
      exact (hcell i (by omega)).2
    · intro hpos
      simp only [List.length_map, List.length_range] at hpos
      obtain ⟨g, o, rfl⟩ := spot_of (hcell 0 (by omega)).1
      refine ⟨g, o, rfl, fun i hi => ?_⟩
      simp only [List.length_map, List.length_range] at hi
      have := (hcell i (by omega)).1
      rw [add_at] at this
      simpa using this

/-- structs of three fields: a boolean, a byte, a text -/
theorem open_bus {t e tb tu ts : TypeId} {fs : Array Field} {base : Nat} {v : Value} {d : DataW H} {p : List MemPlace} (ht : P.underlying t = some (.slice e)) (he : P.underlying e = some (.struct fs)) (hc : P.cellsOf e = 3)
    (hfs : fs.toList.map (fun f => (f.type, f.offset)) = [(tb, 0), (tu, 1), (ts, 2)]) (ub : P.underlying tb = some .bool) (uu : P.underlying tu = some (.int .u8)) (us : P.underlying ts = some .string) (kb : P.cellsOf tb = 1) (ku : P.cellsOf tu = 1) (ks : P.cellsOf ts = 1)
    (hval : Value.okWide P W .any base t v) (h : DataW.Trod enc P W 0 (fun _ => true) true t v d p) :
    ∃ (A : Option Addr) (l : List (Bool × UInt8 × ByteArray)) (c : Nat), v = .slice A l.length c ∧ l.length ≤ c ∧ c ≤ maxLen ∧ (∀ x ∈ l, x.2.2.size ≤ maxLen) ∧
      (0 < l.length → ∃ g o, A = some ⟨g, o, none⟩ ∧ ∀ i (h : i < l.length), W.cell? ⟨g, o + i * 3, none⟩ = some (.bool l[i].1) ∧ W.cell? ⟨g, o + i * 3 + 1, none⟩ = some (.int .u8 l[i].2.1.toNat) ∧ W.cell? ⟨g, o + i * 3 + 2, none⟩ = some (.string l[i].2.2)) := by
  obtain ⟨A, n, c, rfl⟩ := okWide_slice ht hval
  obtain ⟨fuel, hf⟩ := h
  rcases open_slice ht hf with ⟨hcs, _⟩ | ⟨a, len, cap, m, k, D, Pl, hcs, _, hl, hm, hmm, _, hel⟩
  · have h3 : A = none ∧ n = 0 ∧ c = 0 := by simpa [Value.cells] using hcs
    obtain ⟨rfl, rfl, rfl⟩ := h3
    exact ⟨none, [], 0, rfl, Nat.le_refl _, by unfold maxLen; omega, by simp, fun h => absurd h (by simp)⟩
  · have h3 : A = some a ∧ n = len ∧ c = cap := by simpa [Value.cells] using hcs
    obtain ⟨rfl, rfl, rfl⟩ := h3
    simp only [if_true] at hmm
    have each : ∀ i, i < n → ∃ x : Bool × UInt8 × ByteArray, x.2.2.size ≤ maxLen ∧ W.cell? ((a.add (i * 3)).add 0) = some (.bool x.1) ∧ W.cell? ((a.add (i * 3)).add 1) = some (.int .u8 x.2.1.toNat) ∧ W.cell? ((a.add (i * 3)).add 2) = some (.string x.2.2) := by
      intro i hi
      obtain ⟨cs', h1, h2⟩ := hel i (by omega)
      rw [hc] at h1
      obtain ⟨_, hlen, hat⟩ := World.cells?_some h1
      obtain ⟨xs, k', _, _, _, hxl, hx⟩ := DataW.trod_struct he h2
      obtain ⟨fl⟩ := fs
      rcases fl with _ | ⟨f0, _ | ⟨f1, _ | ⟨f2, _ | ⟨f3, fl⟩⟩⟩⟩
      all_goals simp only [List.map_nil, List.map_cons, List.cons.injEq, Prod.mk.injEq, reduceCtorEq, and_false, and_true, false_and] at hfs
      obtain ⟨⟨t0, z0⟩, ⟨t1, z1⟩, t2, z2⟩ := hfs
      match cs', hlen with
      | [v0, v1, v2], _ =>
        match xs, hxl with
        | [y0, y1, y2], _ =>
          have g0 := hx 0 f0 rfl
          have g1 := hx 1 f1 rfl
          have g2 := hx 2 f2 rfl
          rw [t0, z0, kb] at g0
          rw [t1, z1, ku] at g1
          rw [t2, z2, ks] at g2
          obtain ⟨b, e0, _⟩ := DataW.trod_bool ub g0
          obtain ⟨u, e1, _, hw⟩ := DataW.trod_int uu g1
          obtain ⟨s, e2, _, hs⟩ := DataW.trod_string us g2
          simp only [List.drop_zero, List.drop_succ_cons, List.take_succ_cons, List.take_zero, List.cons.injEq, and_true] at e0 e1 e2
          subst e0; subst e1; subst e2
          simp only [Lit.wf, IntKind.has, Bool.and_eq_true, decide_eq_true_eq] at hw
          have hu0 : 0 ≤ u ∧ u ≤ 255 := ⟨hw.1, hw.2⟩
          have hu : ((UInt8.ofNat u.toNat).toNat : Int) = u := by
            rw [UInt8.toNat_ofNat']
            have : u.toNat < 256 := by omega
            rw [Nat.mod_eq_of_lt (by simpa using this)]
            omega
          refine ⟨(b, UInt8.ofNat u.toNat, s), hs, (hat 0 (by omega)).trans rfl, (hat 1 (by omega)).trans ?_, (hat 2 (by omega)).trans rfl⟩
          show some (Value.int .u8 u) = some (.int .u8 ((UInt8.ofNat u.toNat).toNat : Int))
          rw [hu]
    obtain ⟨F, hF⟩ := choose_lt each
    refine ⟨some a, (List.range n).map F, c, by simp, by simpa using hl, hm, ?_, ?_⟩
    · intro x hx
      simp only [List.mem_map, List.mem_range] at hx
      obtain ⟨i, hi, rfl⟩ := hx
      exact (hF i hi).1
    · intro hpos
      simp only [List.length_map, List.length_range] at hpos
      have h00 := (hF 0 hpos).2.1
      have h000 : W.cell? (a.add 0) = some (.bool (F 0).1) := by simpa [Addr.add] using h00
      obtain ⟨g, o, rfl⟩ := spot_of h000
      refine ⟨g, o, rfl, fun i hi => ?_⟩
      simp only [List.length_map, List.length_range] at hi
      obtain ⟨_, q0, q1, q2⟩ := hF i hi
      rw [add_at, add_at] at q0 q1 q2
      simpa using ⟨q0, q1, q2⟩
end
end Go.Proofs.YtmgnhbihfgpccaaGreatDoor
end
section
/- Layer 19: a room whose bans change; a text more, as the run of append. -/
namespace Go.Proofs.YtmgnhbihfgpccaaGreatDoor
open Go Go.RowKit

theorem app_textR {W : World} {base : Nat} {v : Value} {ys : List (List UInt8)} {N : Nat} {y : List UInt8} (ho : OwnT base W v ys) (hb : base ≤ W.heap.size) (hl : ys.length ≤ 2000000)
    (hc : W.cell? ⟨N, 0, none⟩ = some (.string (bs y))) :
    ∃ A c W', (Builtin.append_ #[34, 34] 34 #[v, .slice (some ⟨N, 0, none⟩) 1 1]).run Tryz.prog W = .ok (.slice A (ys.length + 1) c) W' ∧ OwnT base W' (.slice A (ys.length + 1) c) (ys ++ [y]) ∧ Fr (fun k => v.ownBlock = some k) W W' ∧ ∀ k, (Value.slice A (ys.length + 1) c).ownBlock = some k → v.ownBlock = some k ∨ W.heap.size ≤ k := by
  obtain ⟨i0, hi, hz0, hz1, hz2⟩ := info_parts Tryz.infoT
  obtain ⟨v', w', hr, r1, r2, r3⟩ := run_app_any (P := Tryz.prog) W base 34 34 34 9 i0 _ 1 16 Tryz.underlying34 hi hz0 hz1 hz2 rfl v ys.length (ys.map encT) ho (.slice (some ⟨N, 0, none⟩) 1 1) 1 [encT y]
    (Src.ofSlice W Tryz.underlying34 ⟨N, 0, none⟩ 1 1 [encT y] rfl (fun j u hu => by
      match j, hu with
      | 0, hu => simp at hu; subst hu; rw [add_at]; exact hc) (by intro u hu; simp at hu; subst hu; rfl)) (by unfold maxLen; omega) (by omega) (by omega)
  obtain ⟨A, c, rfl⟩ := row_slice r1
  refine ⟨A, c, w', hr, ?_, r2, r3⟩
  unfold OwnT
  rw [List.length_append, List.map_append]
  exact r1
/-- the bans anew -/
theorem RoomAt.toBan {base B : Nat} {q : RmV} {r : Rm} {W W' : World} (h : RoomAt base B q r W) {v : Value} {bn : List (List UInt8)} (ho : OwnT base W' v bn) (hb : W'.heap[B]? = some (rmO { r with bans := bn } { q with vb := v }))
    (hf : Fr (fun k => k = B ∨ q.vb.ownBlock = some k) W W') : RoomAt base B { q with vb := v } { r with bans := bn } W' := by
  have ha := h.apart
  have hl := h.lt
  obtain ⟨g1, g2, g3, g4, g5, g6, g7⟩ := h
  refine ⟨hb, ownM_kept g2 fun g hg => hf.block g (g2.lt g hg).2 ?_, ho, set_kept g4 (hf.block _ (hl _ (.inr (.inr (.inr (.inl rfl))))).2 ?_) (fun g hg => hf.block g (hl _ (.inr (.inr (.inr (.inr hg))))).2 ?_), g5, g6, g7⟩
  · rintro (e | e)
    · exact ha.1.1 (e ▸ hg)
    · exact (ha.2.1 g hg).1 e
  · rintro (e | e)
    · exact ha.1.2.2.1 e
    · exact (ha.2.2 _ e).1 rfl
  · rintro (e | e)
    · exact ha.1.2.2.2 (e ▸ hg)
    · exact (ha.2.2 g e).2 hg
theorem chgW_ban {base B : Nat} {q : RmV} {r : Rm} {W W' : World} (h : RoomAt base B q r W) {v : Value} {bn : List (List UInt8)} (ho : OwnT base W' v bn) (hb : W'.heap[B]? = some (rmO { r with bans := bn } { q with vb := v }))
    (hf : Fr (fun k => k = B ∨ q.vb.ownBlock = some k) W W') (hv : ∀ k, v.ownBlock = some k → k < W.heap.size → q.vb.ownBlock = some k) : ChgW base B q { r with bans := bn } W W' := by
  refine ⟨{ q with vb := v }, h.toBan ho hb hf, hf.mono fun k _ e => ?_, fun k hk hlt => ?_⟩
  · rcases e with e | e
    · exact .inl e
    · exact .inr (.inr (.inl e))
  · rcases hk with e | e | e | e | e
    · exact .inl e
    · exact .inr (.inl e)
    · exact .inr (.inr (.inl (hv k e hlt)))
    · exact .inr (.inr (.inr (.inl e)))
    · exact .inr (.inr (.inr (.inr e)))
/-- what a mask is as a ban -/
def maskB (arg : List UInt8) : List UInt8 := compS (cleanV (bs arg) (bs arg).size)
theorem maskB_len (arg : List UInt8) : (maskB arg).length ≤ 3 * arg.length + 5 := by
  have h := comp_len (cleanV (bs arg) (bs arg).size)
  rw [bs_size] at h
  have h2 : (cleanV (bs arg) (bs arg).size).size ≤ arg.length := by
    show (bs _).size ≤ _
    rw [bs_size, List.length_take]
    have : (cleanL (bs arg).data.toList).length ≤ arg.length := by
      unfold cleanL
      exact Nat.le_trans (List.length_filter_le _ _) (Nat.le_of_eq (by simp))
    omega
  unfold maskB
  omega
/-- a ban -/
def chgBan (r : Rm) (on : Bool) (c : UInt8) (arg : List UInt8) : Told × Rm :=
  if arg = [] ∨ 100 < (maskB arg).length ∨ (maskB arg).contains 32 = true then (noT 0, r)
  else if on = decide (0 ≤ ixB r.bans (maskB arg)) then (noT 0, r)
  else if on = false then (⟨false, c, r.bans.getD (ixB r.bans (maskB arg)).toNat [], 0⟩, { r with bans := r.bans.take (ixB r.bans (maskB arg)).toNat ++ r.bans.drop ((ixB r.bans (maskB arg)).toNat + 1) })
  else if r.mb ≤ r.bans.length then (noT 478, r)
  else (⟨true, c, maskB arg, 0⟩, { r with bans := r.bans ++ [maskB arg] })
end Go.Proofs.YtmgnhbihfgpccaaGreatDoor
end
section
/- Layer 19: a change of the bans. -/
namespace Go.Proofs.YtmgnhbihfgpccaaGreatDoor
open Go Go.RowKit

set_option maxRecDepth 100000 in
set_option maxHeartbeats 16000000 in
theorem changeBan_any {base B : Nat} {q : RmV} {r : Rm} {w : World} (h : RoomAt base B q r w) (on : Bool) (c : UInt8) (arg : List UInt8) (ha : arg.length ≤ 100000) (hbl0 : r.bans.length ≤ 100000) (hbx : ∀ x ∈ r.bans, x.length ≤ 1000000) :
    Calls Tryz.prog 50 #[.pointer (some ⟨B, 0, none⟩), chgV on c arg] w fun e w' => e = .returned (chgBan r on c arg).1.val ∧ ChgW base B q (chgBan r on c arg).2 w w' := by
  obtain ⟨N, hN⟩ : ∃ N, w.heap.size = N := ⟨_, rfl⟩
  obtain ⟨ab, hab⟩ : ∃ ab, bs arg = ab := ⟨_, rfl⟩
  have hcv : chgV on c arg = .agg #[.bool on, .int .u8 c.toNat, .string ab] := by rw [← hab]; rfl
  rw [hcv]
  obtain ⟨res, hres⟩ : ∃ res, chgBan r on c arg = res := ⟨_, rfl⟩
  rw [hres]
  obtain ⟨W0, hW0⟩ : ∃ W0, ((w.alloc (.cells #[.bool on, .int .u8 c.toNat, .string ab] 31)).alloc (.cells #[.bool false, .int .u8 0, .string ⟨#[]⟩] 31)) = W0 := ⟨_, rfl⟩
  have b0 : RowKit.Below w.heap.size w W0 := by rw [← hW0]; exact ((Below.refl _ w).alloc (Nat.le_refl _) _).alloc (by simp) _
  have k0 : W0.heap[N]? = some (.cells #[.bool on, .int .u8 c.toNat, .string ab] 31 (0, 0)) := by rw [← hW0, ← hN]; exact blk_alloc (heap_alloc_new w _) _
  have k1 : W0.heap[N + 1]? = some (.cells #[.bool false, .int .u8 0, .string ⟨#[]⟩] 31 (0, 0)) := by rw [← hW0, ← hN]; exact heap_alloc2_new w _ _
  have h0 := h.below b0
  have hlt : ∀ k, RmX B q k → k < w.heap.size := fun k hk => (h.lt k hk).2
  have hsz : ab.size ≤ 100000 := by rw [← hab]; simpa using ha
  obtain ⟨bl, hbl⟩ : ∃ bl, maskB arg = bl := ⟨_, rfl⟩
  have hbll : bl.length ≤ 1000000 := by rw [← hbl]; have := maskB_len arg; omega
  obtain ⟨bn, hbn⟩ : ∃ bn, bs bl = bn := ⟨_, rfl⟩
  obtain ⟨cl, hcl⟩ : ∃ cl, cleanV ab ab.size = cl := ⟨_, rfl⟩
  have hcls : cl.size ≤ 1000000 := by
    rw [← hcl]
    show (bs _).size ≤ _
    rw [bs_size, List.length_take]
    have := ab.size
    have : (cleanL ab.data.toList).length ≤ ab.size := by
      unfold cleanL
      exact Nat.le_trans (List.length_filter_le _ _) (Nat.le_of_eq (by rw [len_ba]))
    omega
  have hCL := fun W => clean_v ab ab.size W (by omega)
  rw [hcl] at hCL
  have HCL := Lib.hid hCL
  have hmc : compS cl = bl := by rw [← hcl, ← hab, ← hbl]; rfl
  have hCO := fun W => compB_glob cl W hcls
  rw [hmc, hbn] at hCO
  have HCO := Lib.hid hCO
  obtain ⟨sp, hsp⟩ : ∃ sp, bn.data.toList.contains 32 = sp := ⟨_, rfl⟩
  have hbns : bn.size = bl.length := by rw [← hbn]; simp
  have hCT := fun W => contains1 bn 32 W (by omega)
  rw [hsp] at hCT
  have HCT := Lib.hid hCT
  have hsp2 : bl.contains 32 = sp := by rw [← hsp, ← hbn]; rfl
  have HRES := Lib.hid hres
  have HBL := Lib.hid (And.intro hbl (And.intro hbn (And.intro hab (And.intro hsp2 (And.intro hbns (And.intro hbll (And.intro hbl0 hbx)))))))
  have H := Lib.hid (And.intro h0 (And.intro b0 (And.intro k0 (And.intro k1 (And.intro hN hlt)))))
  have HW := Lib.hid hW0
  clear h h0 b0 k0 k1 hW0 hN hab hcv hlt hres hsz hbl hbn hcl hcls hCL hCO hmc hsp hbns hCT hsp2 ha hbll hbl0 hbx
  have hW0 := HW.out
  have hN := H.out.2.2.2.2.1
  go_enter Tryz.func50, Tryz.ntmps50
  have z2 := blk_cell H.out.2.2.1 2
  go_wp2_with fail
  clear hW0 hN z2
  refine (HCL.out W0).mono ?_
  rintro e w1 ⟨rfl, hb1⟩
  have HB1 := Lib.hid hb1
  clear hb1
  go_wp2_with fail
  refine (HCO.out w1).mono ?_
  rintro e w2 ⟨rfl, hb2⟩
  obtain ⟨M, hM⟩ : ∃ M, w2.heap.size = M := ⟨_, rfl⟩
  obtain ⟨W3, hW3⟩ : ∃ W3, w2.alloc (.cells #[.string bn] 9) = W3 := ⟨_, rfl⟩
  have b02 : RowKit.Below W0.heap.size W0 w2 := HB1.out.trans (hb2.mono HB1.out.size)
  have b03 : RowKit.Below W0.heap.size W0 W3 := by rw [← hW3]; exact b02.alloc b02.size _
  have f03 : Fr (fun _ => False) W0 W3 := Fr.of_below b03
  have m3 : W3.heap[M]? = some (.cells #[.string bn] 9 (0, 0)) := by rw [← hW3, ← hM]; exact heap_alloc_new w2 _
  have H3 := Lib.hid (And.intro (H.out.2.1.trans (b03.mono H.out.2.1.size)) (And.intro (f03.blk H.out.2.2.1 fun e => e) (And.intro (f03.blk H.out.2.2.2.1 fun e => e) (And.intro m3 (And.intro (H.out.1.below b03) (And.intro H.out.2.2.2.2.1 H.out.2.2.2.2.2))))))
  have hNM : N + 1 < M := by have := blk_lt H.out.2.2.2.1; have := b02.size; omega
  have HM := Lib.hid (And.intro hNM (blk_lt m3))
  clear hb2 b02 b03 f03 m3 H HB1 HCL HCO HW hNM
  have q0 := blk_cell H3.out.2.2.1 0; have q1 := blk_cell H3.out.2.2.1 1; have q2 := blk_cell H3.out.2.2.1 2; have g0 := blk_free H3.out.2.2.1 0; have g1 := blk_free H3.out.2.2.1 1; have g2 := blk_free H3.out.2.2.1 2
  have z2 := blk_cell H3.out.2.1 2
  have y0 := blk_cell H3.out.2.2.2.1 0
  by_cases hem : arg = []
  · have hc : chgBan r on c arg = (noT 0, r) := by unfold chgBan; rw [if_pos (.inl hem)]
    have HC := Lib.hid hc
    have hab : ab.toList.isEmpty = true := str_em (by rw [← HBL.out.2.2.1, hem]; rfl)
    clear hc hem
    go_wp2_with fail
    obtain ⟨b5, k5, r5, m5, a5, hN5, hlt5⟩ := H3.out
    have kk := fun j => blk_cell (set3R (x := .bool false) (y := .int .u8 0) (z := .string ⟨#[]⟩) r5) j
    refine bodyPost_ret (res_three rfl rfl (Tryz.isAgg31 _) (Tryz.sizeOf31 _) (kk 0) (kk 1) (kk 2)) rfl ⟨by rw [← HRES.out, HC.out]; rfl, ?_⟩
    rw [← HRES.out, HC.out]
    exact ChgW.boxed (N := N + 1) ⟨q, a5, Fr.refl _ _, fun _ hk _ => hk⟩ b5 hlt5 (by omega) (blk_lt r5) set3R_fr
  have hab : ab.toList.isEmpty = false := str_ne (by rw [← HBL.out.2.2.1, bs_size]; exact List.length_pos_iff.2 hem)
  by_cases hlen : 100 < bl.length
  · have hc : chgBan r on c arg = (noT 0, r) := by unfold chgBan; rw [if_pos (.inr (.inl (by rw [HBL.out.1]; exact hlen)))]
    have HC := Lib.hid hc
    have hq : (100 : Int) < bn.size := by have := HBL.out.2.2.2.2.1; omega
    clear hc hem hlen
    go_wp2_with fail
    obtain ⟨b5, k5, r5, m5, a5, hN5, hlt5⟩ := H3.out
    have kk := fun j => blk_cell (set3R (x := .bool false) (y := .int .u8 0) (z := .string ⟨#[]⟩) r5) j
    refine bodyPost_ret (res_three rfl rfl (Tryz.isAgg31 _) (Tryz.sizeOf31 _) (kk 0) (kk 1) (kk 2)) rfl ⟨by rw [← HRES.out, HC.out]; rfl, ?_⟩
    rw [← HRES.out, HC.out]
    exact ChgW.boxed (N := N + 1) ⟨q, a5, Fr.refl _ _, fun _ hk _ => hk⟩ b5 hlt5 (by omega) (blk_lt r5) set3R_fr
  have hq : ¬ (100 : Int) < bn.size := by have := HBL.out.2.2.2.2.1; omega
  have HEM := Lib.hid (And.intro hem hlen)
  clear hem hlen
  go_wp2_with fail
  clear hW3 hM
  refine (HCT.out W3).mono ?_
  rintro e w4 ⟨rfl, rfl⟩
  clear HCT
  cases sp with
  | true =>
    have hc : chgBan r on c arg = (noT 0, r) := by unfold chgBan; rw [if_pos (.inr (.inr (by rw [HBL.out.1]; exact HBL.out.2.2.2.1)))]
    have HC := Lib.hid hc
    clear hc
    go_wp2_with fail
    obtain ⟨b5, k5, r5, m5, a5, hN5, hlt5⟩ := H3.out
    have kk := fun j => blk_cell (set3R (x := .bool false) (y := .int .u8 0) (z := .string ⟨#[]⟩) r5) j
    refine bodyPost_ret (res_three rfl rfl (Tryz.isAgg31 _) (Tryz.sizeOf31 _) (kk 0) (kk 1) (kk 2)) rfl ⟨by rw [← HRES.out, HC.out]; rfl, ?_⟩
    rw [← HRES.out, HC.out]
    exact ChgW.boxed (N := N + 1) ⟨q, a5, Fr.refl _ _, fun _ hk _ => hk⟩ b5 hlt5 (by omega) (blk_lt r5) set3R_fr
  | false =>
    have hc1 : ∀ {X Y : Told × Rm}, (if arg = [] ∨ 100 < (maskB arg).length ∨ (maskB arg).contains 32 = true then X else Y) = Y := fun {X Y} => if_neg (by
      rw [HBL.out.1, HBL.out.2.2.2.1]
      rintro (e | e | e)
      · exact HEM.out.1 e
      · exact HEM.out.2 e
      · cases e)
    have HC1 : Hid (∀ {X Y : Told × Rm}, (if arg = [] ∨ 100 < (maskB arg).length ∨ (maskB arg).contains 32 = true then X else Y) = Y) := @hc1
    clear hc1
    obtain ⟨A, cp, hv⟩ := row_slice H3.out.2.2.2.2.1.2.2.1
    have c7 : W3.cell? ⟨B, 7, none⟩ = some (.slice A r.bans.length cp) := by rw [← hv]; exact blk_cell H3.out.2.2.2.2.1.1 7
    have hIX := indexFunc_any A cp r.bans bl M W3 (reads_ownT (base := base) (n := r.bans.length) (c := cp) (by have := H3.out.2.2.2.2.1.2.2.1; rw [hv] at this; exact this)) (by rw [HBL.out.2.1]; exact y0) HM.out.2 (by have := HBL.out.2.2.2.2.2.2.1; omega) HBL.out.2.2.2.2.2.2.2 HBL.out.2.2.2.2.2.1
    obtain ⟨n, hn⟩ : ∃ n, r.bans.length = n := ⟨_, rfl⟩
    obtain ⟨ia, hia⟩ : ∃ ia, ixB r.bans bl = ia := ⟨_, rfl⟩
    rw [hn, hia] at hIX
    rw [hn] at c7
    have HIX := Lib.hid hIX
    have HN := Lib.hid (And.intro hn (And.intro hia hv))
    clear hn hia hIX hv
    go_wp2_with fail
    refine HIX.out.mono ?_
    rintro e w4 ⟨rfl, hb4⟩
    have f4 : Fr (fun _ => False) W3 w4 := Fr.of_below hb4
    have H4 := Lib.hid (And.intro (H3.out.1.trans (hb4.mono H3.out.1.size)) (And.intro (f4.blk H3.out.2.1 fun e => e) (And.intro (f4.blk H3.out.2.2.1 fun e => e) (And.intro (f4.blk H3.out.2.2.2.1 fun e => e) (And.intro (H3.out.2.2.2.2.1.below hb4) (And.intro H3.out.2.2.2.2.2.1 H3.out.2.2.2.2.2.2))))))
    clear hb4 f4 HIX q0 q1 q2 g0 g1 g2 z2 y0 c7 hab hq
    have q0 := blk_cell H4.out.2.2.1 0; have q1 := blk_cell H4.out.2.2.1 1; have q2 := blk_cell H4.out.2.2.1 2; have g0 := blk_free H4.out.2.2.1 0; have g1 := blk_free H4.out.2.2.1 1; have g2 := blk_free H4.out.2.2.1 2
    have z0 := blk_cell H4.out.2.1 0; have z1 := blk_cell H4.out.2.1 1
    have y0 := blk_cell H4.out.2.2.2.1 0; have x0 := blk_free H4.out.2.2.2.1 0
    have c7 : w4.cell? ⟨B, 7, none⟩ = some (.slice A n cp) := by rw [← HN.out.1, ← HN.out.2.2]; exact blk_cell H4.out.2.2.2.2.1.1 7
    have f7 : w4.frozen? ⟨B, 7, none⟩ = false := blk_free H4.out.2.2.2.2.1.1 7
    have c6 : w4.cell? ⟨B, 6, none⟩ = some (.int .i64 r.mb) := blk_cell H4.out.2.2.2.2.1.1 6
    clear H3
    by_cases hi0 : 0 ≤ ia
    · cases on with
      | true =>
        have hc : chgBan r true c arg = (noT 0, r) := by unfold chgBan; rw [HC1.out, if_pos (by rw [HBL.out.1, HN.out.2.1, decide_eq_true hi0])]
        have HC := Lib.hid hc
        clear hc
        go_wp2_with fail
        obtain ⟨b5, k5, r5, m5, a5, hN5, hlt5⟩ := H4.out
        have kk := fun j => blk_cell (set3R (x := .bool false) (y := .int .u8 0) (z := .string ⟨#[]⟩) r5) j
        refine bodyPost_ret (res_three rfl rfl (Tryz.isAgg31 _) (Tryz.sizeOf31 _) (kk 0) (kk 1) (kk 2)) rfl ⟨by rw [← HRES.out, HC.out]; rfl, ?_⟩
        rw [← HRES.out, HC.out]
        exact ChgW.boxed (N := N + 1) ⟨q, a5, Fr.refl _ _, fun _ hk _ => hk⟩ b5 hlt5 (by omega) (blk_lt r5) set3R_fr
      | false =>
        obtain ⟨k, rfl⟩ : ∃ k : Nat, ia = k := ⟨ia.toNat, by omega⟩
        obtain ⟨hkl, hks, hkr⟩ := ixB_yes HN.out.2.1
        have hkn : k < n := by have := HN.out.1; omega
        obtain ⟨xl, hxl⟩ : ∃ xl, r.bans[k] = xl := ⟨_, rfl⟩
        have hc : chgBan r false c arg = (⟨false, c, xl, 0⟩, { r with bans := r.bans.take k ++ r.bans.drop (k + 1) }) := by
          unfold chgBan
          rw [HC1.out, if_neg (by rw [HBL.out.1, HN.out.2.1, decide_eq_true hi0]; decide), if_pos rfl, HBL.out.1, HN.out.2.1]
          simp only [Int.toNat_natCast]
          rw [List.getD_eq_getElem?_getD, List.getElem?_eq_getElem hkl, hxl]
          rfl
        have HC := Lib.hid hc
        obtain ⟨xb, hxb⟩ : ∃ xb, bs xl = xb := ⟨_, rfl⟩
        obtain ⟨g, o, rfl, hg, hcell⟩ := reads_ownT (base := base) (n := r.bans.length) (c := cp) (by have := H4.out.2.2.2.2.1.2.2.1; rw [HN.out.2.2] at this; exact this) (by omega)
        have ck := hcell k hkl
        rw [hxl, hxb] at ck
        have ho0 : o = 0 := by
          have ho := H4.out.2.2.2.2.1.2.2.1
          rw [HN.out.2.2] at ho
          rcases ho.2 with ⟨h2, _⟩ | ⟨g', cap', cur, h2, _⟩
          · cases h2
          · injection h2 with e1 _ _; injection e1 with e1; injection e1
        subst ho0
        have HX := Lib.hid hxb
        have hn6 : n ≤ 1000000 := by have := HBL.out.2.2.2.2.2.2.1; have := HN.out.1; omega
        clear hc hkr hkl hks hxl hxb hcell hg
        have hgq : q.vb.ownBlock = some g := by rw [HN.out.2.2]; rfl
        have hgl : g < w.heap.size := H4.out.2.2.2.2.2.2 g (.inr (.inr (.inl hgq)))
        have hBl : B < w.heap.size := H4.out.2.2.2.2.2.2 B (.inl rfl)
        have hgB : g ≠ B := fun e => H4.out.2.2.2.2.1.apart.1.2.1 (e ▸ hgq)
        have hMs : N + 1 < M ∧ w.heap.size = N := ⟨HM.out.1, H4.out.2.2.2.2.2.1⟩
        obtain ⟨W5, hW5⟩ : ∃ W5, w4.setCell ⟨M, 0, none⟩ (.string xb) = W5 := ⟨_, rfl⟩
        have f5 : Fr (fun k => k = M) w4 W5 := by rw [← hW5]; exact Fr.setCell (X := fun k => k = M) (Fr.refl _ w4) ⟨M, 0, none⟩ rfl _
        have m5 : W5.heap[M]? = some (.cells #[.string xb] 9 (0, 0)) := by rw [← hW5]; exact blk_set H4.out.2.2.2.1 0 _
        have a5 : RoomAt base B q r W5 := H4.out.2.2.2.2.1.fr f5 fun k hk e => by have := H4.out.2.2.2.2.2.2 k hk; omega
        have b5 : RowKit.Below w.heap.size w W5 := H4.out.1.trans (f5.below H4.out.1.size fun k hk e => by omega)
        have k5 := f5.blk H4.out.2.1 (by omega)
        have r5 := f5.blk H4.out.2.2.1 (by omega)
        have hD := delete_ownS (base := base) (w := W5) (v := .slice (some ⟨g, 0, none⟩) r.bans.length cp) (xs := r.bans) (by have := a5.2.2.1; rw [HN.out.2.2] at this; exact this) (by have := HN.out.1; omega) k (by have := HN.out.1; omega)
        rw [HN.out.1] at hD
        have hD2 : Calls Tryz.prog 82 #[.slice (some ⟨g, 0, none⟩) n cp, .int .i64 k, .int .i64 ((k : Int) + 1)] W5 _ := hD
        have HD := Lib.hid hD2
        have H5 := Lib.hid (And.intro b5 (And.intro k5 (And.intro r5 (And.intro m5 (And.intro a5 f5)))))
        have d7 : W5.cell? ⟨B, 7, none⟩ = some (.slice (some ⟨g, 0, none⟩) n cp) := by rw [← HN.out.1, ← HN.out.2.2]; exact blk_cell a5.1 7
        have ck' : w4.cell? ⟨g, k, none⟩ = some (.string xb) := by rw [← ck, Nat.zero_add]
        have hkn2 : (k : Int) < n := by omega
        have HG := Lib.hid (And.intro hgq (And.intro hgl (And.intro hBl (And.intro hgB hMs))))
        clear f5 m5 a5 b5 k5 r5 hD hD2 hgq hgl hBl hgB hMs hkn ck
        go_wp2_with fail
        refine HD.out.mono ?_
        rintro e w6 ⟨⟨v6, rfl, o6, t6⟩, f6⟩
        obtain ⟨A6, c6', rfl⟩ := row_slice o6
        obtain ⟨hgq, hgl, hBl, hgB, hMs, hwN⟩ := HG.out
        have hvB : ∀ k, vB (.slice (some ⟨g, 0, none⟩) n cp) k ↔ k = g := fun k => ⟨fun e => by cases e; rfl, fun e => by rw [e]; rfl⟩
        have k6 := f6.blk H5.out.2.1 (fun e => by rw [hvB] at e; omega)
        have r6 := f6.blk H5.out.2.2.1 (fun e => by rw [hvB] at e; omega)
        have m6 := f6.blk H5.out.2.2.2.1 (fun e => by rw [hvB] at e; omega)
        have h6 := f6.blk H5.out.2.2.2.2.1.1 (fun e => by rw [hvB] at e; omega)
        obtain ⟨l6, hl6⟩ : ∃ l6, (r.bans.take k ++ r.bans.drop (k + 1)).length = l6 := ⟨_, rfl⟩
        have HO := Lib.hid (And.intro o6 (And.intro t6 (And.intro f6 (And.intro k6 (And.intro r6 (And.intro m6 (And.intro h6 (And.intro hl6 hvB))))))))
        have e7 := blk_cell h6 7
        have e7f := blk_free h6 7
        rw [hl6]
        obtain ⟨W7, hW7⟩ : ∃ W7, w6.setCell ⟨B, 7, none⟩ (.slice A6 l6 c6') = W7 := ⟨_, rfl⟩
        have f7' : Fr (fun k => k = B) w6 W7 := by rw [← hW7]; exact Fr.setCell (X := fun k => k = B) (Fr.refl _ w6) ⟨B, 7, none⟩ rfl _
        have k7 := f7'.blk k6 (by omega)
        have r7 := f7'.blk r6 (by omega)
        have m7 := f7'.blk m6 (by omega)
        have h7 : W7.heap[B]? = some (rmO { r with bans := r.bans.take k ++ r.bans.drop (k + 1) } { q with vb := .slice A6 l6 c6' }) := by rw [← hW7]; exact blk_set h6 7 _
        have o7 := ownT_kept o6 fun g hg => f7'.block g (o6.lt g hg).2 fun e => by
          subst e
          have := t6 _ hg (blk_lt H5.out.2.2.2.2.1.1)
          exact hgB (by cases this; rfl)
        rw [hl6] at o7
        have hch : ChgW base B q { r with bans := r.bans.take k ++ r.bans.drop (k + 1) } W5 W7 := chgW_ban (v := .slice A6 l6 c6') H5.out.2.2.2.2.1 o7 h7 ((f6.mono fun k _ e => .inr (by rw [hgq, (hvB k).1 e])).trans3 f7' fun k _ e => .inl e) fun k hk hl => by
          have := t6 k (by rw [hl6]; exact hk) hl
          rw [hgq]; exact this
        have H7 := Lib.hid (And.intro k7 (And.intro r7 (And.intro m7 hch)))
        have p0 := blk_cell k7 0; have p1 := blk_cell k7 1; have p2 := blk_cell m7 0
        have t0 := blk_cell r7 0; have t1 := blk_cell r7 1; have t2 := blk_cell r7 2; have u0 := blk_free r7 0; have u1 := blk_free r7 1; have u2 := blk_free r7 2
        clear o6 t6 f6 k6 r6 m6 h6 hl6 hvB f7' k7 r7 m7 h7 o7 hch hgq hgl hBl hgB hMs hwN d7 ck' hkn2 hn6 hi0 hW5 q0 q1 q2 g0 g1 g2 z0 z1 y0 x0 c7 f7 c6
        go_wp2_with fail
        obtain ⟨k7, r7, m7, hch⟩ := H7.out
        have kk := fun j => blk_cell (set3R (x := .bool false) (y := .int .u8 c.toNat) (z := .string xb) r7) j
        refine bodyPost_ret (res_three rfl rfl (Tryz.isAgg31 _) (Tryz.sizeOf31 _) (kk 0) (kk 1) (kk 2)) rfl ⟨by rw [← HRES.out, HC.out, ← HX.out]; rfl, ?_⟩
        rw [← HRES.out, HC.out]
        exact ChgW.boxed (N := N + 1) hch H5.out.1 H4.out.2.2.2.2.2.2 (by have := HG.out.2.2.2.2.2; omega) (blk_lt H5.out.2.2.1) set3R_fr
    · have hd0 : decide (0 ≤ ia) = false := decide_eq_false hi0
      cases on with
      | false =>
        have hc : chgBan r false c arg = (noT 0, r) := by unfold chgBan; rw [HC1.out, if_pos (by rw [HBL.out.1, HN.out.2.1, decide_eq_false hi0])]
        have HC := Lib.hid hc
        clear hc
        go_wp2_with fail
        obtain ⟨b5, k5, r5, m5, a5, hN5, hlt5⟩ := H4.out
        have kk := fun j => blk_cell (set3R (x := .bool false) (y := .int .u8 0) (z := .string ⟨#[]⟩) r5) j
        refine bodyPost_ret (res_three rfl rfl (Tryz.isAgg31 _) (Tryz.sizeOf31 _) (kk 0) (kk 1) (kk 2)) rfl ⟨by rw [← HRES.out, HC.out]; rfl, ?_⟩
        rw [← HRES.out, HC.out]
        exact ChgW.boxed (N := N + 1) ⟨q, a5, Fr.refl _ _, fun _ hk _ => hk⟩ b5 hlt5 (by omega) (blk_lt r5) set3R_fr
      | true =>
        have hc2 : ∀ {X : Told × Rm}, chgBan r true c arg = if r.mb ≤ r.bans.length then (noT 478, r) else (⟨true, c, bl, 0⟩, { r with bans := r.bans ++ [bl] }) := by
          intro X
          unfold chgBan
          rw [HC1.out, if_neg (by rw [HBL.out.1, HN.out.2.1, decide_eq_false hi0]; decide), if_neg (by decide), HBL.out.1]
        have hc := hc2 (X := (noT 0, r))
        clear hc2
        by_cases hful : r.mb ≤ n
        · rw [if_pos (by rw [HN.out.1]; exact hful)] at hc
          have HC := Lib.hid hc
          clear hc
          go_wp2_with fail
          go_quiet (fail)
          obtain ⟨W5, hW5⟩ : ∃ W5, w4.drewN nq = W5 := ⟨_, rfl⟩
          rw [hW5]
          have f5 : Fr (fun _ => False) w4 W5 := by rw [← hW5]; exact Fr.of_below (below_drewN (Below.refl _ _) nq)
          have H5 := Lib.hid (And.intro (by rw [← hW5]; exact below_drewN H4.out.1 nq : RowKit.Below w.heap.size w W5) (And.intro (f5.blk H4.out.2.1 fun e => e) (And.intro (f5.blk H4.out.2.2.1 fun e => e) (And.intro (f5.blk H4.out.2.2.2.1 fun e => e) (And.intro (H4.out.2.2.2.2.1.fr f5 fun _ _ e => e) (And.intro H4.out.2.2.2.2.2.1 H4.out.2.2.2.2.2.2))))))
          clear hW5 f5 q0 q1 q2 g0 g1 g2 z0 z1 y0 x0 c7 f7 c6
          have q0 := blk_cell H5.out.2.2.1 0; have q1 := blk_cell H5.out.2.2.1 1; have q2 := blk_cell H5.out.2.2.1 2; have g0 := blk_free H5.out.2.2.1 0; have g1 := blk_free H5.out.2.2.1 1; have g2 := blk_free H5.out.2.2.1 2
          go_wp2_with fail
          obtain ⟨b5, k5, r5, m5, a5, hN5, hlt5⟩ := H5.out
          have kk := fun j => blk_cell (set3R (x := .bool false) (y := .int .u8 0) (z := .string ⟨#[]⟩) r5) j
          refine bodyPost_ret (res_three rfl rfl (Tryz.isAgg31 _) (Tryz.sizeOf31 _) (kk 0) (kk 1) (kk 2)) rfl ⟨by rw [← HRES.out, HC.out]; rfl, ?_⟩
          rw [← HRES.out, HC.out]
          exact ChgW.boxed (N := N + 1) ⟨q, a5, Fr.refl _ _, fun _ hk _ => hk⟩ b5 hlt5 (by omega) (blk_lt r5) set3R_fr
        · rw [if_neg (by rw [HN.out.1]; exact hful)] at hc
          have hfd : decide (r.mb ≤ (n : Int)) = false := decide_eq_false hful
          have HC := Lib.hid hc
          clear hc
          go_wp2_with fail
          go_quiet (fail)
          obtain ⟨W5, hW5⟩ : ∃ W5, w4.drewN nq = W5 := ⟨_, rfl⟩
          rw [hW5]
          have f5 : Fr (fun _ => False) w4 W5 := by rw [← hW5]; exact Fr.of_below (below_drewN (Below.refl _ _) nq)
          have b5 : RowKit.Below w.heap.size w W5 := by rw [← hW5]; exact below_drewN H4.out.1 nq
          have k5 := f5.blk H4.out.2.1 fun e => e
          have r5 := f5.blk H4.out.2.2.1 fun e => e
          have m5 := f5.blk H4.out.2.2.2.1 fun e => e
          have a5 := H4.out.2.2.2.2.1.fr f5 fun _ _ e => e
          clear hW5 f5 q0 q1 q2 g0 g1 g2 z0 z1 y0 x0 c7 f7 c6
          have hMs : N + 1 < M ∧ w.heap.size = N ∧ N + 1 < W5.heap.size := ⟨HM.out.1, H4.out.2.2.2.2.2.1, blk_lt r5⟩
          have hBl : B < w.heap.size := H4.out.2.2.2.2.2.2 B (.inl rfl)
          have c7 : W5.cell? ⟨B, 7, none⟩ = some (.slice A n cp) := by rw [← HN.out.1, ← HN.out.2.2]; exact blk_cell a5.1 7
          have d5 : W5.drew.cell? ⟨B, 7, none⟩ = some (.slice A n cp) ∧ W5.drew.cell? ⟨M, 0, none⟩ = some (.string bn) := ⟨c7, blk_cell m5 0⟩
          obtain ⟨W6, hW6⟩ : ∃ W6, (W5.alloc (.cells #[.string bn] 9)).drew = W6 := ⟨_, rfl⟩
          have HW6 := Lib.hid hW6
          obtain ⟨KK, hKK⟩ : ∃ KK, W5.heap.size = KK := ⟨_, rfl⟩
          have f56 : Fr (fun _ => False) W5 W6 := by rw [← hW6]; exact ((Fr.refl _ W5).alloc _).drew
          have kK : W6.heap[KK]? = some (.cells #[.string bn] 9 (0, 0)) := by rw [← hW6, ← hKK]; exact heap_alloc_new W5 _
          have a6 := a5.fr f56 fun _ _ e => e
          have m6 := f56.blk m5 fun e => e
          have d6 : W6.cell? ⟨B, 7, none⟩ = some (.slice A n cp) ∧ W6.cell? ⟨M, 0, none⟩ = some (.string bn) := ⟨by rw [← HN.out.1, ← HN.out.2.2]; exact blk_cell a6.1 7, blk_cell m6 0⟩
          have o6 := a6.2.2.1
          rw [HN.out.2.2] at o6
          have hbase : base ≤ W6.heap.size := by have := a6.2.2.2.2.1; have := blk_lt a6.1; omega
          obtain ⟨A7, c7', W7, hr7, o7, f7, t7⟩ := app_textR (y := bl) o6 hbase (by have := HBL.out.2.2.2.2.2.2.1; omega) (N := KK) (by rw [HBL.out.2.1]; exact blk_cell kK 0)
          rw [HN.out.1] at hr7 o7 f7 t7
          have hq7 : q.vb.ownBlock = (Value.slice A n cp).ownBlock := by rw [HN.out.2.2, HN.out.1]
          have hnB : ∀ k, (Value.slice A n cp).ownBlock = some k → k ≠ B ∧ k < w.heap.size := fun k hk => ⟨fun e => a5.apart.1.2.1 (by rw [hq7, hk, e]), H4.out.2.2.2.2.2.2 k (.inr (.inr (.inl (by rw [hq7, hk]))))⟩
          have h7 := f7.blk a6.1 (fun e => (hnB _ e).1 rfl)
          have m7 := f7.blk m6 (fun e => by have := (hnB _ e).2; omega)
          have k7 := f7.blk (f56.blk k5 fun e => e) (fun e => by have := (hnB _ e).2; omega)
          have r7 := f7.blk (f56.blk r5 fun e => e) (fun e => by have := (hnB _ e).2; omega)
          have d7 : W7.cell? ⟨B, 7, none⟩ = some (.slice A n cp) ∧ W7.cell? ⟨M, 0, none⟩ = some (.string bn) := ⟨by rw [← HN.out.1, ← HN.out.2.2]; exact blk_cell h7 7, blk_cell m7 0⟩
          have v7 := blk_free h7 7
          have H7 := Lib.hid (And.intro a5 (And.intro b5 (And.intro f56 (And.intro h7 (And.intro m7 (And.intro k7 (And.intro r7 (And.intro o7 (And.intro f7 (And.intro t7 (And.intro hq7 (And.intro hnB (And.intro hMs hBl)))))))))))))
          clear a5 b5 f56 h7 m7 k7 r7 o7 f7 t7 hq7 hnB hMs hBl a6 m6 o6 hbase kK k5 r5 m5 hi0 hd0 hW6
          go_wp2_with fail
          refine wp_region_z (S := fun V => V.cell? ⟨B, 7, none⟩ = some (.slice A n cp) ∧ V.cell? ⟨M, 0, none⟩ = some (.string bn)) (z := 10) (by kernel_rfl) (by exact d5) (fun hHeld => ?_)
          refine wpAnyZ_read (i := 0) (oi := { dst := some 34, op := Go.Op.move (Go.Operand.tmp 0), type := 25, pos := "room.go:309", after := #[], guard := none }) ?_ rfl (by kernel_rfl) (by kernel_rfl) (by kernel_rfl) (by kernel_rfl) (fun _ _ _ h => h) (by rfl) (by exact hHeld) ?_ ?_
          rotate_left
          · (intro w0 hS0; have s0 := hS0.1; have s1 := hS0.2; go_simp <;> (try with_reducible rfl))
          try simp only [Act.put, List.setIfInBounds_toArray, List.set_cons_zero, List.set_cons_succ]
          refine wpAnyZ_read (i := 1) (oi := { dst := some 35, op := Go.Op.move (Go.Operand.tmp 0), type := 25, pos := "room.go:309", after := #[], guard := none }) ?_ rfl (by kernel_rfl) (by kernel_rfl) (by kernel_rfl) (by kernel_rfl) (fun _ _ _ h => h) (by rfl) (by exact hHeld) ?_ ?_
          rotate_left
          · (intro w0 hS0; have s0 := hS0.1; have s1 := hS0.2; go_simp <;> (try with_reducible rfl))
          try simp only [Act.put, List.setIfInBounds_toArray, List.set_cons_zero, List.set_cons_succ]
          refine wpAnyZ_read (i := 2) (oi := { dst := some 36, op := Go.Op.nilCheck (Go.Operand.tmp 35), type := 0, pos := "room.go:309", after := #[{ on := 1, ground := Go.Ground.data }], guard := none }) ?_ rfl (by kernel_rfl) (by kernel_rfl) (by kernel_rfl) (by kernel_rfl) (fun _ _ _ h => h) (by rfl) (by exact hHeld) ?_ ?_
          rotate_left
          · (intro w0 hS0; have s0 := hS0.1; have s1 := hS0.2; go_simp <;> (try with_reducible rfl))
          try simp only [Act.put, List.setIfInBounds_toArray, List.set_cons_zero, List.set_cons_succ]
          refine wpAnyZ_read (i := 3) (oi := { dst := some 37, op := Go.Op.fieldAddr 68 (Go.Operand.tmp 36) 7, type := 0, pos := "room.go:309", after := #[{ on := 2, ground := Go.Ground.data }], guard := none }) ?_ rfl (by kernel_rfl) (by kernel_rfl) (by kernel_rfl) (by kernel_rfl) (fun _ _ _ h => h) (by rfl) (by exact hHeld) ?_ ?_
          rotate_left
          · (intro w0 hS0; have s0 := hS0.1; have s1 := hS0.2; go_simp <;> (try with_reducible rfl))
          try simp only [Act.put, List.setIfInBounds_toArray, List.set_cons_zero, List.set_cons_succ]
          refine wpAnyZ_read (i := 4) (oi := { dst := some 38, op := Go.Op.load 34 (Go.Operand.tmp 37), type := 34, pos := "room.go:309", after := #[{ on := 3, ground := Go.Ground.data }], guard := none }) ?_ rfl (by kernel_rfl) (by kernel_rfl) (by kernel_rfl) (by kernel_rfl) (fun _ _ _ h => h) (by rfl) (by exact hHeld) ?_ ?_
          rotate_left
          · (intro w0 hS0; have s0 := hS0.1; have s1 := hS0.2; go_simp <;> (try with_reducible rfl))
          try simp only [Act.put, List.setIfInBounds_toArray, List.set_cons_zero, List.set_cons_succ]
          refine wpAnyZ_read (i := 5) (oi := { dst := some 39, op := Go.Op.load 9 (Go.Operand.tmp 6), type := 9, pos := "room.go:309", after := #[], guard := none }) ?_ rfl (by kernel_rfl) (by kernel_rfl) (by kernel_rfl) (by kernel_rfl) (fun _ _ _ h => h) (by rfl) (by exact hHeld) ?_ ?_
          rotate_left
          · (intro w0 hS0; have s0 := hS0.1; have s1 := hS0.2; go_simp <;> (try with_reducible rfl))
          try simp only [Act.put, List.setIfInBounds_toArray, List.set_cons_zero, List.set_cons_succ]
          refine wpAnyZ_one (i := 6) (o := { dst := some 40, op := Go.Op.buildSlice 34 1 #[(0, Go.Operand.tmp 39)], type := 34, pos := "room.go:309", after := #[{ on := 5, ground := Go.Ground.data }], guard := none }) (by kernel_rfl) rfl (by rfl) (fun K hK => ?_)
          go_simp
          rw [HW6.out]
          refine hK.out _ _ ?_ (fun hHeld => ?_)
          · exact d6
          clear hK K
          try simp only [Act.put, List.setIfInBounds_toArray, List.set_cons_zero, List.set_cons_succ]
          refine wpAnyZ_one (i := 7) (o := { dst := some 41, op := Go.Op.call { callee := Go.Callee.builtin Go.Builtin.append, args := #[Go.Operand.tmp 38, Go.Operand.tmp 40], argTypes := #[34, 34] }, type := 34, pos := "room.go:309", after := #[{ on := 4, ground := Go.Ground.data }, { on := 6, ground := Go.Ground.data }], guard := none }) (by kernel_rfl) rfl (by rfl) (fun K hK => ?_)
          refine wp_app_run _ _ _ _ rfl hr7 ?_
          refine hK.out _ _ ?_ (fun hHeld => ?_)
          · exact d7
          clear hK K
          try simp only [Act.put, List.setIfInBounds_toArray, List.set_cons_zero, List.set_cons_succ]
          refine wpAnyZ_one (i := 8) (o := { dst := some 42, op := Go.Op.nilCheck (Go.Operand.tmp 34), type := 0, pos := "room.go:309", after := #[{ on := 0, ground := Go.Ground.data }, { on := 0, ground := Go.Ground.phase }, { on := 1, ground := Go.Ground.phase }, { on := 2, ground := Go.Ground.phase }, { on := 3, ground := Go.Ground.phase }, { on := 4, ground := Go.Ground.phase }, { on := 5, ground := Go.Ground.phase }, { on := 6, ground := Go.Ground.phase }, { on := 7, ground := Go.Ground.phase }], guard := none }) (by kernel_rfl) rfl (by rfl) (fun K hK => ?_)
          go_simp
          refine hK.out _ _ ?_ (fun hHeld => ?_)
          · (first | assumption | trivial)
          clear hK K
          try simp only [Act.put, List.setIfInBounds_toArray, List.set_cons_zero, List.set_cons_succ]
          refine wpAnyZ_read (i := 9) (oi := { dst := some 43, op := Go.Op.fieldAddr 68 (Go.Operand.tmp 42) 7, type := 0, pos := "room.go:309", after := #[{ on := 8, ground := Go.Ground.data }, { on := 0, ground := Go.Ground.phase }, { on := 1, ground := Go.Ground.phase }, { on := 2, ground := Go.Ground.phase }, { on := 3, ground := Go.Ground.phase }, { on := 4, ground := Go.Ground.phase }, { on := 5, ground := Go.Ground.phase }, { on := 6, ground := Go.Ground.phase }, { on := 7, ground := Go.Ground.phase }], guard := none }) ?_ rfl (by kernel_rfl) (by kernel_rfl) (by kernel_rfl) (by kernel_rfl) (fun _ _ _ h => h) (by rfl) (by exact hHeld) ?_ ?_
          rotate_left
          · (intro w0 hS0; have s0 := hS0.1; have s1 := hS0.2; go_simp <;> (try with_reducible rfl))
          try simp only [Act.put, List.setIfInBounds_toArray, List.set_cons_zero, List.set_cons_succ]
          refine wpAnyZ_last (o := { dst := none, op := Go.Op.store 34 (Go.Operand.tmp 43) (Go.Operand.tmp 41), type := 0, pos := "room.go:309", after := #[{ on := 9, ground := Go.Ground.data }, { on := 7, ground := Go.Ground.data }, { on := 7, ground := Go.Ground.chain }, { on := 0, ground := Go.Ground.phase }, { on := 1, ground := Go.Ground.phase }, { on := 2, ground := Go.Ground.phase }, { on := 3, ground := Go.Ground.phase }, { on := 4, ground := Go.Ground.phase }, { on := 5, ground := Go.Ground.phase }, { on := 6, ground := Go.Ground.phase }, { on := 7, ground := Go.Ground.phase }], guard := none }) (by kernel_rfl) rfl (by rfl) (fun K hK => ?_)
          go_simp
          refine hK.out _ _ ?_
          clear hK K
          try simp only [Act.put, List.setIfInBounds_toArray, List.set_cons_zero, List.set_cons_succ]
          refine wpAnyZ_done (by kernel_rfl) ?_ _
          obtain ⟨a5, b5, f56, h7, m7, k7, r7, o7, f7, t7, hq7, hnB, hMs, hBl⟩ := H7.out
          obtain ⟨W8, hW8⟩ : ∃ W8, W7.setCell ⟨B, 7, none⟩ (.slice A7 (n + 1) c7') = W8 := ⟨_, rfl⟩
          rw [hW8]
          have f8 : Fr (fun k => k = B) W7 W8 := by rw [← hW8]; exact Fr.setCell (X := fun k => k = B) (Fr.refl _ W7) ⟨B, 7, none⟩ rfl _
          have k8 := f8.blk k7 (by omega)
          have r8 := f8.blk r7 (by omega)
          have m8 := f8.blk m7 (by omega)
          have h8 : W8.heap[B]? = some (rmO { r with bans := r.bans ++ [bl] } { q with vb := .slice A7 (n + 1) c7' }) := by rw [← hW8]; exact blk_set h7 7 _
          have o8 := ownT_kept o7 fun g hg => f8.block g (o7.lt g hg).2 fun e => by
            subst e
            rcases t7 _ hg with e | e
            · exact (hnB _ e).1 rfl
            · have := f56.size; have := b5.size; omega
          have hch : ChgW base B q { r with bans := r.bans ++ [bl] } W5 W8 := chgW_ban (v := .slice A7 (n + 1) c7') a5 o8 h8 (((f56.mono fun k _ e => e.elim).trans3 f7 fun k _ e => .inr (by rw [hq7, e])).trans3 f8 fun k _ e => .inl e) fun k hk hl => by
            rcases t7 k hk with e | e
            · rw [hq7, e]
            · have := f56.size; omega
          have H8 := Lib.hid (And.intro k8 (And.intro r8 (And.intro m8 hch)))
          have p0 := blk_cell k8 0; have p1 := blk_cell k8 1; have p2 := blk_cell m8 0
          have t0 := blk_cell r8 0; have t1 := blk_cell r8 1; have t2 := blk_cell r8 2; have u0 := blk_free r8 0; have u1 := blk_free r8 1; have u2 := blk_free r8 2
          clear a5 b5 f56 h7 m7 k7 r7 o7 f7 t7 hq7 hnB hMs hBl hW8 f8 k8 r8 m8 h8 o8 hch
          go_wp2_with fail
          obtain ⟨k8, r8, m8, hch⟩ := H8.out
          have kk := fun j => blk_cell (set3R (x := .bool true) (y := .int .u8 c.toNat) (z := .string bn) r8) j
          refine bodyPost_ret (res_three rfl rfl (Tryz.isAgg31 _) (Tryz.sizeOf31 _) (kk 0) (kk 1) (kk 2)) rfl ⟨by rw [← HRES.out, HC.out, ← HBL.out.2.1]; rfl, ?_⟩
          rw [← HRES.out, HC.out]
          exact ChgW.boxed (N := N + 1) hch H7.out.2.1 H4.out.2.2.2.2.2.2 (by have := H4.out.2.2.2.2.2.1; omega) (by have := H7.out; exact H7.out.2.2.2.2.2.2.2.2.2.2.2.2.1.2.2) set3R_fr
end Go.Proofs.YtmgnhbihfgpccaaGreatDoor
end
