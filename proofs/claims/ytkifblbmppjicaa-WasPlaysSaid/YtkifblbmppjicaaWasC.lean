/- Layer 13: a past: All. -/
import Derived.Test.YtkifblbmppjicaaWasB
import Derived.Test.YtkifblbmppjicaaOwn
import Derived.Deep.RegionHeld3
import Derived.IntWalk
namespace Go.Proofs.Ytkifblbmppjicaa
set_option linter.unusedVariables false
set_option linter.unusedSimpArgs false
open Go.RowKit Go.Shelf

/-- entries as cells -/
def entL (l : List Ent) : List Value := l.flatMap fun x => [.string x.1, .int .i64 x.2]
theorem entL_snoc (l : List Ent) (x : Ent) : entL (l ++ [x]) = entL l ++ [.string x.1, .int .i64 x.2] := by simp [entL]
theorem entL_len (l : List Ent) : (entL l).length = l.length * 2 := by
  induction l with
  | nil => rfl
  | cons x l ih => simp only [entL, List.flatMap_cons, List.length_append, List.length_cons, List.length_nil] at ih ⊢; omega
theorem entL_get : ∀ (l : List Ent) (j : Nat) (hj : j < l.length), (entL l)[j * 2]? = some (.string l[j].1) ∧ (entL l)[j * 2 + 1]? = some (.int .i64 l[j].2)
  | x :: l, 0, _ => ⟨rfl, rfl⟩
  | x :: l, j + 1, hj => by
    have := entL_get l j (by simpa using hj)
    rw [show (j + 1) * 2 = j * 2 + 1 + 1 by omega]
    exact this
/-- the last N of all that went, the last one first -/
def lastN (N : Nat) (h : List Ent) : List Ent := h.reverse.take N
theorem lastN_len (N : Nat) (h : List Ent) : (lastN N h).length = min h.length N := by simp [lastN, Nat.min_comm]
theorem lastN_take (N : Nat) (h : List Ent) (i : Nat) (hi : i < min h.length N) : (lastN N h).take (i + 1) = (lastN N h).take i ++ [h[h.length - 1 - i]'(by omega)] := by
  have hl := lastN_len N h
  rw [List.take_succ_eq_append_getElem (by omega)]
  congr 1
  simp [lastN, List.getElem_reverse]
theorem back_at (n N i : Nat) (h1 : i < n) (h2 : i < N) : (n % N + N - 1 - i) % N = (n - 1 - i) % N := by
  have hN : 0 < N := by omega
  have hm := Nat.mod_lt n hN
  have hd := Nat.div_add_mod n N
  obtain ⟨x, hx⟩ : ∃ x, n % N = x := ⟨_, rfl⟩
  obtain ⟨d, hdd⟩ : ∃ d, n / N = d := ⟨_, rfl⟩
  rw [hx] at hm hd ⊢
  rw [hdd] at hd
  by_cases h3 : i + 1 ≤ x
  · rw [show x + N - 1 - i = x - 1 - i + N by omega, Nat.add_mod_right, show n - 1 - i = x - 1 - i + N * d by omega, Nat.add_mul_mod_self_left]
  · cases d with
    | zero => omega
    | succ d =>
      rw [Nat.mul_add, Nat.mul_one] at hd
      rw [show n - 1 - i = x + N - 1 - i + N * d by omega, Nat.add_mul_mod_self_left]

/-- what tells a row of entries: the box of the row, and the row -/
def Tale (base : Nat) (w : World) (xs : List Ent) (f : Value) : Prop := ∃ (B : Nat) (v : Value), f = .func (.func 53) #[] #[.pointer (some ⟨B, 0, none⟩)] ∧ base ≤ B ∧ v.ownBlock ≠ some B ∧ w.heap[B]? = some (.cells #[v] 78 (0, 0)) ∧ w.ownsRow base 82 2 v xs.length (entL xs)
theorem was_told (A : Option Addr) (n c : Nat) (w : World) :
    Calls Try.prog 42 #[.slice A n c] w fun e w' => e = .returned (.func (.func 53) #[] #[.pointer (some ⟨w.heap.size, 0, none⟩)]) ∧ w' = w.alloc (.cells #[.slice A n c] 78) := by
  go_enter Try.func42, Try.ntmps42
  go_wp2_with fail
  go_ret
  exact ⟨rfl, rfl⟩
theorem tale_new {base : Nat} {w : World} {xs : List Ent} {v : Value} (hb : base ≤ w.heap.size) (h : w.ownsRow base 82 2 v xs.length (entL xs)) :
    Tale base (w.alloc (.cells #[v] 78)) xs (.func (.func 53) #[] #[.pointer (some ⟨w.heap.size, 0, none⟩)]) :=
  ⟨w.heap.size, v, rfl, hb, fun e => by have := (h.lt _ e).2; omega, heap_alloc_new w _, h.alloc _⟩

set_option maxRecDepth 100000 in
set_option maxHeartbeats 2000000 in
theorem past_all {w : World} {q R N : Nat} {h : List Ent} (hP : PastAt w q R N h) (hN : N ≤ 100000) :
    Calls Try.prog 15 #[.pointer (some ⟨q, 0, none⟩)] w fun e w' => (∃ f, e = .returned f ∧ Tale w.heap.size w' (lastN N h) f) ∧ Below w.heap.size w w' := by
  obtain ⟨i0, hi, hz0, hz1, hz2⟩ := info_parts Try.infoWE
  have hlen := past_len hP
  have hmk := run_make (P := Try.prog) w 78 82 i0 _ Try.underlying78 hi hz0 .i64 .i64 0 ((min h.length N : Nat) : Int) (by omega) (by omega) (by rw [hz2]; omega) (by omega)
  rw [Int.toNat_natCast, hz1] at hmk
  have hown := World.ownsRow_made (base := w.heap.size) (e := 82) (size := 2) w (madeCells #[.string ⟨#[]⟩, .int .i64 0] (min h.length N * 2)) (min h.length N) (Nat.le_refl _) (by unfold maxLen; omega) (size_madeCells _ _)
  obtain ⟨n, hn⟩ : ∃ n, min h.length N = n := ⟨_, rfl⟩
  rw [hn] at hmk hlen hown
  have hP1 : PastAt (w.alloc (.cells (zrow n) 82)) q R N h := past_kept hP (Below.heap_alloc w _ q (blk_lt hP.hd)) (by obtain ⟨cs, hr, _⟩ := hP.row; exact Below.heap_alloc w _ R (blk_lt hr))
  have hlen1 := past_len hP1
  rw [hn] at hlen1
  have hmk : (Instr.makeSlice 78 (.int .i64 0) (.int .i64 n)).run Try.prog w = .ok (.slice (some ⟨w.heap.size, 0, none⟩) 0 n) (w.alloc (.cells (zrow n) 82)) := hmk
  have HL := Lib.hid hlen
  have HL1 := Lib.hid hlen1
  have HO := Lib.hid hown
  have hn9 : n ≤ 100000 := by omega
  have HN := Lib.hid hn
  have HP := Lib.hid hP
  have HP1 := Lib.hid hP1
  clear hlen hlen1 hown hn hP hP1
  go_enter Try.func15, Try.ntmps15
  go_wp2_with fail
  refine HL.out.mono ?_
  rintro e w' ⟨rfl, rfl⟩
  go_wp2_with fail
  refine HL1.out.mono ?_
  rintro e w' ⟨rfl, rfl⟩
  go_wp2_with fail
  obtain ⟨wz, hwz⟩ : ∃ wz, w.alloc (.cells (zrow n) 82) = wz := ⟨_, rfl⟩
  have hO := HO.out
  have hB : Below w.heap.size w wz := hwz ▸ (Below.refl _ w).alloc (Nat.le_refl _) _
  have hO : wz.ownsRow w.heap.size 82 2 (.slice (some ⟨w.heap.size, 0, none⟩) 0 n) 0 [] := hwz ▸ hO
  rw [hwz]
  have HO2 := Lib.hid hO
  have HB := Lib.hid hB
  clear hO hB hwz
  go_loopw [3, 10] (fun v c wr => ∃ k : Nat, c = .int .i64 k ∧ k ≤ n ∧ Hid (wr.ownsRow w.heap.size 82 2 v k (entL ((lastN N h).take k))) ∧ Hid (Below w.heap.size w wr)) (fun _ c _ => n - (intOf c).toNat)
  case atStart => exact ⟨0, rfl, Nat.zero_le _, HO2, HB⟩
  case round =>
    obtain ⟨k, rfl, hk, HOk, HBk⟩ := hrel
    by_cases hlt : k < n
    · have hPk : PastAt wr q R N h := past_kept HP.out (HBk.out.block q (blk_lt HP.out.hd)) (by obtain ⟨cs, hr, _⟩ := HP.out.row; exact HBk.out.block R (blk_lt hr))
      obtain ⟨cs, hr, hs, hrg⟩ := hPk.row
      have hnn := HN.out
      have hjl : h.length - 1 - k < h.length := by omega
      obtain ⟨d0, d1⟩ := hrg (h.length - 1 - k) hjl (by omega)
      have c0 := blk_cell hPk.hd 0
      have c1 := blk_cell hPk.hd 1
      obtain ⟨x, hx⟩ : ∃ x, h.length % N = x := ⟨_, rfl⟩
      have hxN : x < N := by rw [← hx]; exact Nat.mod_lt _ (by omega)
      have hback := back_at h.length N k (by omega) (by omega)
      obtain ⟨y, hy⟩ : ∃ y, (h.length - 1 - k) % N = y := ⟨_, rfl⟩
      have hyN : y < N := by rw [← hy]; exact Nat.mod_lt _ (by omega)
      rw [hx, hy] at hback
      rw [hx] at c1
      rw [hy] at d0 d1
      have b0 := (blk_cell hr (y * 2)).trans d0
      have b1 := (blk_cell hr (y * 2 + 1)).trans d1
      have htk := lastN_take N h k (by omega)
      obtain ⟨z, hz⟩ : ∃ z, h[h.length - 1 - k] = z := ⟨_, rfl⟩
      rw [hz] at b0 b1 htk
      have s1 : IntKind.i64.wrap ((x : Int) - 1) = x - 1 := IntWalk.i64_in _ (by omega)
      have s2 : IntKind.i64.wrap ((x : Int) - 1 - k) = x - 1 - k := IntWalk.i64_in _ (by omega)
      have s3 : IntKind.i64.wrap ((x : Int) - 1 - k + N) = x - 1 - k + N := IntWalk.i64_in _ (by omega)
      have s4 : ((x : Int) - 1 - k + N).tmod N = (y : Nat) := by
        rw [show (x : Int) - 1 - k + N = ((x + N - 1 - k : Nat) : Int) by omega, ← hback]; rfl
      have s5 : ¬ ((N : Int) = 0) := by omega
      have s6 : ¬ N = 0 := by omega
      have HT := Lib.hid htk
      have HD := Lib.hid hback
      clear hPk hr hs hrg hnn hjl d0 d1 hx hback hy htk hz
      go_wp2_with fail
      have hOw := HOk.out
      have hBw := HBk.out
      have hz := hBw.size
      have hqw := blk_lt HP.out.hd
      have hRw : R < w.heap.size := by obtain ⟨cs, hr, _⟩ := HP.out.row; exact blk_lt hr
      have HOw := Lib.hid hOw
      have HBw := Lib.hid hBw
      have HC0 := Lib.hid c0
      have HC1 := Lib.hid c1
      have HB0 := Lib.hid b0
      have HB1 := Lib.hid b1
      clear hOw hBw
      go_region_held3 (fun w' => w'.cell? ⟨q, 0, none⟩ = some (.slice (some ⟨R, 0, none⟩) N N) ∧ w'.cell? ⟨q, 1, none⟩ = some (.int .i64 x) ∧ w'.cell? ⟨R, y * 2, none⟩ = some (.string z.1) ∧ w'.cell? ⟨R, y * 2 + 1, none⟩ = some (.int .i64 z.2)) (go_keep)
        (first | (refine step_app_oneN (w0 := w) rfl _ _ 78 rfl w.heap.size 82 i0 _ 2 24 Try.underlying78 hi hz0 hz1 hz2 rfl (by decide) _ _ _ rfl HOw.out #[.string z.1, .int .i64 z.2] _ rfl rfl rfl (by intro u hu; simp at hu; rcases hu with rfl | rfl <;> rfl) (by omega) (by decide) HBw.out.drew hz ?_; intro v1 w1 hown1 hB1 hb1; have k0 : w1.cell? ⟨q, 0, none⟩ = _ := (hB1.cell (p := ⟨q, 0, none⟩) hqw).trans ((HBw.out.cell (p := ⟨q, 0, none⟩) hqw).symm.trans HC0.out); have k1 : w1.cell? ⟨q, 1, none⟩ = _ := (hB1.cell (p := ⟨q, 1, none⟩) hqw).trans ((HBw.out.cell (p := ⟨q, 1, none⟩) hqw).symm.trans HC1.out); have k2 : w1.cell? ⟨R, y * 2, none⟩ = _ := (hB1.cell (p := ⟨R, y * 2, none⟩) hRw).trans ((HBw.out.cell (p := ⟨R, y * 2, none⟩) hRw).symm.trans HB0.out); have k3 : w1.cell? ⟨R, y * 2 + 1, none⟩ = _ := (hB1.cell (p := ⟨R, y * 2 + 1, none⟩) hRw).trans ((HBw.out.cell (p := ⟨R, y * 2 + 1, none⟩) hRw).symm.trans HB1.out)))
      have hnew : w1.ownsRow w.heap.size 82 2 v1 (k + 1) (entL ((lastN N h).take (k + 1))) := by rw [HT.out, entL_snoc]; exact hown1
      have HNW := Lib.hid hnew
      have HB2 := Lib.hid hB1
      clear hown1 hB1 hnew k0 k1 k2 k3
      go_wp2_with fail
      go_roundw
      case rel => exact ⟨k + 1, by go_num, by omega, HNW, HB2⟩
      case measure => simp [intOf]; omega
    · obtain rfl : k = n := by omega
      have hfull : (lastN N h).take k = lastN N h := List.take_of_length_le (by rw [lastN_len, HN.out]; exact Nat.le_refl _)
      have HF := Lib.hid hfull
      clear hfull
      obtain ⟨A, c, rfl⟩ := row_slice HOk.out
      go_wp2_with fail
      refine (was_told _ _ _ _).mono ?_
      rintro e w' ⟨rfl, rfl⟩
      go_wp2_with fail
      go_ret
      have hO := HOk.out
      rw [HF.out] at hO
      have hB := HBk.out
      exact ⟨⟨_, rfl, tale_new hB.size (by rw [lastN_len, HN.out]; exact hO)⟩, hB.alloc hB.size _⟩
end Go.Proofs.Ytkifblbmppjicaa
