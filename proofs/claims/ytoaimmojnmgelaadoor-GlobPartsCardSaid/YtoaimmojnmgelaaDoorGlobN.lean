/- Layer 4: contracts in one form; glob.Any, Hits; awake. -/
import Derived.Test.YtoaimmojnmgelaaDoorGlobJ
import Derived.Test.YtoaimmojnmgelaaDoorGlobL
namespace Go.Proofs.YtoaimmojnmgelaaDoor
open Go.RowKit

theorem bjoin {B : Nat} {w w1 w2 : World} (h : Below B w w1) (hB : B ≤ w.heap.size) (k : Below w1.heap.size w1 w2) : Below B w w2 := h.trans (k.mono (Nat.le_trans hB h.size))
theorem below_of_drewN {w w' : World} (h : ∃ n, w' = w.drewN n) : Below w.heap.size w w' := by
  obtain ⟨n, rfl⟩ := h
  exact ⟨rfl, rfl, rfl, Nat.le_refl _, fun _ _ => rfl⟩
theorem compB_glob (s : ByteArray) (w : World) (hs : s.size ≤ 1000000) :
    Calls Tryd.prog 36 #[.string s] w fun e w' => e = .returned (.string (bs (compS s))) ∧ Below w.heap.size w w' :=
  (comp_glob s w hs).mono fun e w' ⟨⟨r, h1, h2⟩, h3⟩ => ⟨by rw [h1]; exact ret_str (ba_ext (by rw [h2]; simp)), below_of_drewN h3⟩
theorem compB_ref (s : ByteArray) (w : World) (hs : s.size ≤ 1000000) :
    Calls Tryd.prog 39 #[.string s] w fun e w' => e = .returned (.string (bs (compS s))) ∧ Below w.heap.size w w' :=
  (comp_ref s w hs).mono fun e w' ⟨⟨r, h1, h2⟩, h3⟩ => ⟨by rw [h1]; exact ret_str (ba_ext (by rw [h2]; simp)), below_of_drewN h3⟩
theorem cutB_glob (s : ByteArray) (w : World) (hs : s.size ≤ 1000000) :
    Calls Tryd.prog 37 #[.string s] w fun e w' => e = .returned (cutV s) ∧ Below w.heap.size w w' :=
  (gcut_any s w hs).mono fun e w' ⟨h1, h3⟩ => ⟨h1, below_of_drewN h3⟩
theorem cutB_ref (s : ByteArray) (w : World) (hs : s.size ≤ 1000000) :
    Calls Tryd.prog 38 #[.string s] w fun e w' => e = .returned (cutV s) ∧ Below w.heap.size w w' :=
  (rcut_any s w hs).mono fun e w' ⟨h1, h3⟩ => ⟨h1, below_of_drewN h3⟩
theorem matchB (m s : ByteArray) (w : World) (hm : m.size ≤ 1000000) (hs : s.size ≤ 1000000) :
    Calls Tryd.prog 34 #[.string m, .string s] w fun e w' => e = .returned (.bool (mm m.data.toList s.data.toList)) ∧ Below w.heap.size w w' :=
  (match_any m s w hm hs).mono fun e w' ⟨h1, h3⟩ => ⟨h1, below_of_drewN h3⟩

set_option maxHeartbeats 1000000 in
theorem any_gen (s : ByteArray) (l : List ByteArray) (b n cap : Nat) (w : World) (hs : s.size ≤ 1000000) (hl : l.length = n) (hn : n ≤ 1000) (hc : ∀ j (h : j < l.length), w.cell? ⟨b, j, none⟩ = some (.string l[j])) (hz : ∀ x ∈ l, x.size ≤ 1000000) :
    Calls Tryd.prog 35 #[.string s, .slice (some ⟨b, 0, none⟩) n cap] w fun e w' => e = .returned (.bool (l.any fun x => mm x.data.toList s.data.toList)) ∧ Below w.heap.size w w' := by
  have HC := Lib.hid hc
  have HZ := Lib.hid hz
  have HL := Lib.hid hl
  clear hc hz hl
  go_enter Tryd.func35, Tryd.ntmps35
  go_wp2_with fail
  go_loopw [6, 9] (fun _ i wr => ∃ k : Nat, i = .int .i64 k ∧ k ≤ n ∧ Hid ((l.any fun x => mm x.data.toList s.data.toList) = ((l.drop k).any fun x => mm x.data.toList s.data.toList)) ∧ Hid (∃ q, wr = w.drewN q)) (fun _ i _ => n - (intOf i).toNat)
  case atStart => exact ⟨0, rfl, Nat.zero_le _, by rw [List.drop_zero]; rfl, 0, rfl⟩
  case round =>
    obtain ⟨k, rfl, hk, HA, HW⟩ := hrel
    by_cases hlt : k < n
    · have hlt' : k < l.length := by rw [HL.out]; exact hlt
      have hcell : wr.cell? ⟨b, k, none⟩ = some (.string l[k]) := by
        obtain ⟨q, rfl⟩ := HW.out
        exact HC.out k hlt'
      have hsz : l[k].size ≤ 1000000 := HZ.out _ (List.getElem_mem _)
      have hnx := List.drop_eq_getElem_cons hlt'
      have Hnx := Lib.hid hnx
      clear hnx
      cases hb : mm l[k].data.toList s.data.toList with
      | true =>
        have Hb := Lib.hid hb
        clear hb
        go_wp2_with (go_at_call 34; refine (match_any l[k] s _ hsz hs).mono ?_; rintro e w' ⟨rfl, hw⟩; rw [Hb.out])
        go_ret
        exact ⟨ret_bool (by rw [HA.out, Hnx.out, List.any_cons, Hb.out, Bool.true_or]), below_of_drewN (drewN_two HW.out hw)⟩
      | false =>
        have Hb := Lib.hid hb
        clear hb
        go_wp2_with (go_at_call 34; refine (match_any l[k] s _ hsz hs).mono ?_; rintro e w' ⟨rfl, hw⟩; rw [Hb.out])
        go_roundw
        case rel => exact ⟨k + 1, by go_num, by omega, by have := HA.out; rw [Hnx.out, List.any_cons, Hb.out, Bool.false_or] at this; exact this, drewN_two HW.out hw⟩
        case measure => simp [intOf]; omega
    · obtain rfl : k = n := by omega
      go_wp2_with fail
      go_ret
      exact ⟨ret_bool (by rw [HA.out, List.drop_of_length_le (by rw [HL.out]; exact Nat.le_refl _)]; rfl), below_of_drewN HW.out⟩
theorem any_nil (s : ByteArray) (w : World) :
    Calls Tryd.prog 35 #[.string s, .slice none 0 0] w fun e w' => e = .returned (.bool false) ∧ w = w' := by
  go_enter Tryd.func35, Tryd.ntmps35
  go_wp2_with fail
  go_loopw [6, 9] (fun _ i wr => i = .int .i64 0 ∧ wr = w) (fun _ _ _ => 0)
  case atStart => exact ⟨rfl, rfl⟩
  case round =>
    obtain ⟨rfl, rfl⟩ := hrel
    go_wp2_with fail
    go_ret
    exact ⟨rfl, rfl⟩

set_option maxHeartbeats 1000000 in
theorem hits_any (m a b c : ByteArray) (w : World) (hm : m.size ≤ 1000) (ha : a.size ≤ 1000) (hb : b.size ≤ 1000) (hc : c.size ≤ 1000) (hcm : (bs (compS m)).size ≤ 1000000) :
    Calls Tryd.prog 40 #[.string m, .string a, .string b, .string c] w fun e w' => e = .returned (.bool (mm (compS m) (a ++ ⟨#[33]⟩ ++ b ++ ⟨#[64]⟩ ++ c).data.toList)) ∧ Below w.heap.size w w' := by
  have hj : (a ++ ⟨#[33]⟩ ++ b ++ ⟨#[64]⟩ ++ c).size ≤ 1000000 := by
    have e1 : (⟨#[33]⟩ : ByteArray).size = 1 := rfl
    have e2 : (⟨#[64]⟩ : ByteArray).size = 1 := rfl
    simp only [ByteArray.size_append]; omega
  have hm1 : m.size ≤ 1000000 := by omega
  go_enter Tryd.func40, Tryd.ntmps40
  go_wp2_with fail
  refine (compB_glob _ _ hm1).mono ?_
  rintro e w1 ⟨rfl, q1⟩
  go_wp2_with fail
  refine (matchB _ _ _ hcm hj).mono ?_
  rintro e w2 ⟨rfl, q2⟩
  go_wp2_with fail
  go_ret
  exact ⟨ret_bool (by simp), bjoin q1 (Nat.le_refl _) q2⟩

theorem starL_len (l : List UInt8) : (starL l).length ≤ l.length + 1 := by
  unfold starL
  split <;> simp
theorem join_len (n u h : List UInt8) : (joinL n u h).length ≤ n.length + u.length + h.length + 5 := by
  have h1 := starL_len n; have h2 := starL_len u; have h3 := starL_len h
  unfold joinL
  simp only [List.length_append, List.length_cons, List.length_nil]; omega
theorem comp_len (s : ByteArray) : (bs (compS s)).size ≤ 3 * s.size + 5 := by
  rw [bs_size]
  have he : ∀ a b, (s.extract a b).data.toList.length ≤ s.size := fun a b => by rw [len_ba]; simp [ByteArray.size_extract]; omega
  unfold compS
  simp only []
  split
  · split
    · refine Nat.le_trans (join_len _ _ _) ?_; rw [len_ba]; simp; omega
    · refine Nat.le_trans (join_len _ _ _) ?_; have := he 0 (Lib.indexByte s.data.toList 33).toNat; have := he ((Lib.indexByte s.data.toList 33).toNat + 1) s.size; simp only [List.length_nil]; omega
  · split
    · refine Nat.le_trans (join_len _ _ _) ?_; have := he 0 (Lib.indexByte s.data.toList 64).toNat; have := he ((Lib.indexByte s.data.toList 64).toNat + 1) s.size; simp only [List.length_nil]; omega
    · refine Nat.le_trans (join_len _ _ _) ?_; have := he 0 (Lib.indexByte s.data.toList 33).toNat; have := he ((Lib.indexByte s.data.toList 33).toNat + 1) (Lib.indexByte s.data.toList 64).toNat; have := he ((Lib.indexByte s.data.toList 64).toNat + 1) s.size; omega

set_option maxHeartbeats 1000000 in
theorem awake4 (w : World) : Calls Tryd.prog 32 #[] w fun e w' => e = .returned (.bool true) ∧ Below w.heap.size w w' := by
  have t1 : bs (compS ⟨#[98, 111, 98]⟩) = ⟨#[98, 111, 98, 33, 42, 64, 42]⟩ := by decide +kernel
  have t2 : bs (compS ⟨#[117, 64, 104]⟩) = ⟨#[42, 33, 117, 64, 104]⟩ := by decide +kernel
  have t3 : bs (compS ⟨#[97, 33, 98]⟩) = ⟨#[97, 33, 98, 64, 42]⟩ := by decide +kernel
  have t4 : bs (shortL (⟨#[42, 63, 42, 42, 63]⟩ : ByteArray).data.toList) = ⟨#[63, 63, 42]⟩ := by decide +kernel
  have t5 : mm (⟨#[66, 42, 98]⟩ : ByteArray).data.toList (⟨#[98, 111, 98]⟩ : ByteArray).data.toList = true := by decide +kernel
  have T1 := Lib.hid t1
  have T2 := Lib.hid t2
  have T3 := Lib.hid t3
  have T4 := Lib.hid t4
  have T5 := Lib.hid t5
  clear t1 t2 t3 t4 t5
  have q := Below.refl w.heap.size w
  have hq := Nat.le_refl w.heap.size
  go_enter Tryd.func32, Tryd.ntmps32
  go_wp2_with (first | (go_at_call 36; refine (compB_glob _ _ (by decide)).mono ?_; rintro e w1 ⟨rfl, q1⟩; replace q := bjoin q hq q1; clear q1; first | rw [T1.out] | rw [T2.out] | rw [T3.out]) | (go_at_call 41; refine (short_any _ _ (by decide)).mono ?_; rintro e w1 ⟨rfl, q1⟩; replace q := bjoin q hq q1; clear q1; rw [T4.out]) | (go_at_call 34; refine (matchB _ _ _ (by decide) (by decide)).mono ?_; rintro e w1 ⟨rfl, q1⟩; replace q := bjoin q hq q1; clear q1; rw [T5.out]))
  all_goals go_ret
  all_goals exact ⟨rfl, q⟩
end Go.Proofs.YtoaimmojnmgelaaDoor
