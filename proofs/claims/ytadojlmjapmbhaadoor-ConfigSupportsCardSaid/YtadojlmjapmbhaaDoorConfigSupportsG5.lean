/- Texts of this proof, one behind the other. -/
import Derived.Test.YtadojlmjapmbhaaDoorConfigSupportsG4
import Derived.Test.YtadojlmjapmbhaaDoorConfigSupportsG2
import Derived.Sort.CutIn
import Derived.Stop.RegionWithIn
import Derived.Test.YtadojlmjapmbhaaDoorConfigSupportsG1
import Derived.Lib.ItoaNum
import Derived.IntWalk
import Derived.Shelf.RegionOpenPlain
import Derived.Lib.Hide
import Derived.Shelf.Strings.OnBuilder
import Derived.Shelf.Strconv.Itoa3
import Derived.Test.YtadojlmjapmbhaaDoorProg
import Derived.Test.YtadojlmjapmbhaaDoorChecked
import Derived.RangeFuncKeeps
import Derived.Outline
import Derived.Deep.QuietTactic
import Derived.BigQuiet
import Derived.Laws.StructEq
import Derived.ChangeKeysEq
section
/- fold.Text: what is folded. -/
namespace Go.Proofs.YtadojlmjapmbhaaDoor
open Go.RowKit Go.Shelf
attribute [local go_sem] Oper.semAt_some

/-- bytes as cells -/
def u8s (l : List UInt8) : List Value := l.map fun b => Value.int .u8 b.toNat
theorem u8s_append (a b : List UInt8) : u8s (a ++ b) = u8s a ++ u8s b := by simp [u8s]
theorem u8s_bytes (s : ByteArray) : byteCells s = u8s s.data.toList := rfl

theorem u8s_step (a : List UInt8) (p : ByteArray) (k : Nat) (h : k < p.size) :
    u8s (a ++ (p.data.toList.map foldB).take (k + 1)) = u8s (a ++ (p.data.toList.map foldB).take k) ++ [.int .u8 (foldB p[k]).toNat] := by
  rw [← List.map_take, ba_take p k h, List.map_append, ← List.append_assoc, u8s_append, List.map_take]
  rfl

/-- what pieces are folded to -/
def tx (pre : List Piece) : List UInt8 := pre.flatMap fun x => if x.1.2 then x.1.1.data.toList.map foldB else x.1.1.data.toList
theorem tx_snoc (pre : List Piece) (x : Piece) : tx (pre ++ [x]) = tx pre ++ (if x.1.2 then x.1.1.data.toList.map foldB else x.1.1.data.toList) := by simp [tx]
theorem tx_len (pre : List Piece) : (tx pre).length ≤ pre.length * 1000000 := by
  induction pre using snoc_ind with
  | nil => simp [tx]
  | snoc l x ih =>
    rw [tx_snoc, List.length_append]
    have hx := x.2
    have e : (if x.1.2 then x.1.1.data.toList.map foldB else x.1.1.data.toList).length = x.1.1.size := by split <;> simp
    rw [e]
    simp only [List.length_append, List.length_cons, List.length_nil]
    omega
theorem tx_fold {pre : List Piece} (h : okAll pre) : tx pre = foldL (flat pre) := by
  induction pre using snoc_ind with
  | nil => rfl
  | snoc l x ih =>
    rw [okAll_snoc] at h
    rw [tx_snoc, flat_snoc, foldL_append, ih h.1]
    congr 1
    obtain ⟨_, hb, _⟩ := h.2
    cases hx : x.1.2 with
    | true => simp [foldL]
    | false =>
      rw [hx] at hb
      simp only [Bool.false_eq_true, if_false]
      unfold foldL
      have : ∀ l : List UInt8, (∀ b ∈ l, tb b = false) → l = l.map foldB := by
        intro l
        induction l with
        | nil => intro _; rfl
        | cons b r ih =>
          intro h
          have hb := h b (by simp)
          simp only [tb, bne_eq_false_iff_eq] at hb
          rw [List.map_cons, hb, ← ih fun c hc => h c (by simp [hc])]
      exact this _ hb

/-- 'out = append(out, ..)' onto a box's own row: what the walk owes. -/
theorem boxed_app {W w1 : World} {n₀ B : Nat} {t e : TypeId} {size g cap k m : Nat} {v' : Value} {xs ys : List Value} (hv : Boxed W B t (.slice (some ⟨g, 0, none⟩) k cap)) (hte : t ≠ e)
    (hrow : W.ownsRow n₀ e size (.slice (some ⟨g, 0, none⟩) k cap) k xs) (hn₀ : n₀ ≤ W.heap.size) (hB : n₀ ≤ B) (hown' : w1.ownsRow n₀ e size v' m ys) (hgrow : W.grownBy w1 (some g)) :
    Boxed w1 B t (.slice (some ⟨g, 0, none⟩) k cap) ∧ Boxed (w1.setCell ⟨B, 0, none⟩ v') B t v' ∧ (w1.setCell ⟨B, 0, none⟩ v').ownsRow n₀ e size v' m ys ∧ KeepsOthers W (w1.setCell ⟨B, 0, none⟩ v') ∧ Below n₀ W (w1.setCell ⟨B, 0, none⟩ v') := by
  have hv1 : Boxed w1 B t (.slice (some ⟨g, 0, none⟩) k cap) := hv.kept hgrow (hv.not_row hte hrow)
  rcases hrow.2 with ⟨h, _⟩ | ⟨g0, cap0, cur, h, hb, hgb, _⟩
  · cases h
  · simp only [Value.slice.injEq, Option.some.injEq, Addr.mk.injEq, true_and, and_true] at h
    obtain ⟨rfl, rfl⟩ := h
    refine ⟨hv1, hv1.set v', hown'.kept (grownBy_setCell' w1 B v') (.inr (hv1.not_row hte hown').symm), ?_, ?_⟩
    · refine (KeepsOthers.of_grownBy hgrow fun j o ej hj => ?_).trans (KeepsOthers.setCell _ _ _)
      cases ej
      rw [hgb] at hj; cases hj; rfl
    · refine ((Below.refl n₀ W).grown hgrow hn₀ fun j ej => ?_).setCell (p := ⟨B, 0, none⟩) hB v'
      cases ej
      exact hb

theorem conv_own {P : Program} (W : World) (src dst e : TypeId) (base g cap : Nat) (l : List UInt8) (hs : P.underlying src = some (.slice e)) (he : P.underlying e = some (.int .u8)) (hd : P.underlying dst = some .string)
    (h : W.ownsRow base e 1 (.slice (some ⟨g, 0, none⟩) l.length cap) l.length (u8s l)) :
    (convert src dst (.slice (some ⟨g, 0, none⟩) l.length cap)).run P W = .ok (.string (bs l)) W :=
  run_convert_bytes_back W src dst e ⟨g, 0, none⟩ cap l hs he hd fun j hj => h.cells (g := g) rfl j _ (by simp [u8s, hj])

theorem Tryd.infoU8 : (Tryd.prog.info? 5).map (fun i => (i.zero, i.size, i.bytes)) = some (some (.int .u8 0), 1, 1) := by kernel_rfl

end Go.Proofs.YtadojlmjapmbhaaDoor
end
section
/- The document's Text, Same, Compare of layer 1; awake. -/
namespace Go.Proofs.YtadojlmjapmbhaaDoor
open Go.RowKit

/-- 'string([]byte{b})' -/
theorem conv_one {P : Program} (W : World) (src dst e : TypeId) (b : UInt8) (hs : P.underlying src = some (.slice e)) (he : P.underlying e = some (.int .u8)) (hd : P.underlying dst = some .string) :
    (convert src dst (.slice (some ⟨W.heap.size, 0, none⟩) 1 1)).run P (W.alloc (.cells #[.int .u8 b.toNat] e)) = .ok (.string (bs [b])) (W.alloc (.cells #[.int .u8 b.toNat] e)) :=
  run_convert_bytes_back (W.alloc (.cells #[.int .u8 b.toNat] e)) src dst e ⟨W.heap.size, 0, none⟩ 1 [b] hs he hd fun j hj => by
    simp at hj
    subst hj
    simp [Addr.add]
theorem bs_append (a b : List UInt8) : bs a ++ bs b = bs (a ++ b) := by
  apply ba_ext
  simp [bs]
theorem foldL_step (s : ByteArray) (k : Nat) (h : k < s.size) : bs (foldL (s.data.toList.take k)) ++ bs [foldB s[k]] = bs (foldL (s.data.toList.take (k + 1))) := by
  rw [bs_append, ba_take s k h, foldL_append]; rfl



theorem bs_inj {a b : List UInt8} (h : bs a = bs b) : a = b := by
  have := congrArg (fun x : ByteArray => x.data.toList) h
  simpa using this
end Go.Proofs.YtadojlmjapmbhaaDoor
end
section
/- The answers' decimal digits: any number. -/
namespace Go.Proofs.YtadojlmjapmbhaaDoor
set_option linter.unusedVariables false
set_option linter.unusedSimpArgs false
open Go Go.RowKit Go.Shelf Go.Lib

def dg (n : Nat) : UInt8 := UInt8.ofNat (48 + n % 10)
theorem dg_nat (n : Nat) : (dg n).toNat = 48 + n % 10 := by simp [dg]; omega
theorem conv_dg {W : World} {B n : Nat} {m : Int} {T : TypeId} (hm : m = ((48 + n % 10 : Nat) : Int)) (hk : W.heap[B]? = some (.cells #[.int .u8 m] T (0, 0))) :
    ((convert 57 9 (.slice (some ⟨B, 0, none⟩) 1 1)).run Tryd.prog W).andThen (fun a w' => Result.ok (Next.value a) w') = .ok (.value (.string (bs [dg n]))) W := by
  have h : (convert 57 9 (.slice (some ⟨B, 0, none⟩) 1 1)).run Tryd.prog W = .ok (.string (bs [dg n])) W := by
    refine run_convert_bytes_back W _ _ 5 ⟨B, 0, none⟩ 1 [dg n] Tryd.underlying57 Tryd.underlying5 Tryd.underlying9 fun j hj => ?_
    obtain rfl : j = 0 := by simp at hj; omega
    have := blk_cell hk 0
    simp only [List.getElem_cons_zero, dg_nat]
    rw [← hm]
    exact this
  rw [h]; rfl
set_option maxRecDepth 100000 in
set_option maxHeartbeats 4000000 in
theorem digits_one (n : Nat) (h : n < 10) (w : World) : Calls Tryd.prog 38 #[.int .i64 n] w fun e w' => e = .returned (.string (bs [dg n])) ∧ RowKit.Below w.heap.size w w' := by
  have h1 : ((n : Int) < 10) := by omega
  have q1 : decide ((n : Int) < 10) = true := by simp; omega
  have hc := conv_dg (n := n) (m := 48 + (n : Int)) (by omega) (heap_alloc_new w (Obj.cells #[Value.int IntKind.u8 (48 + (n : Int))] 5))
  go_enter Tryd.func38, Tryd.ntmps38
  go_wp2_with fail
  go_ret
  exact ⟨rfl, (Below.refl _ w).alloc (Nat.le_refl _) _⟩
theorem wrap8 {a : Int} (h : 0 ≤ a ∧ a < 256) : IntKind.u8.wrap a = a := by
  simp [IntKind.wrap, IntKind.signed, IntKind.bits]
  omega
set_option maxRecDepth 100000 in
set_option maxHeartbeats 8000000 in
theorem digits_more (n q r : Nat) (h : 10 ≤ n) (hn : n < 9223372036854775808) (hq : n / 10 = q) (hr : n % 10 = r) (l : List UInt8) (hll : l.length ≤ 100) (hrec : ∀ W, Calls Tryd.prog 38 #[.int .i64 q] W fun e W' => e = .returned (.string (bs l)) ∧ RowKit.Below W.heap.size W W') (w : World) :
    Calls Tryd.prog 38 #[.int .i64 n] w fun e w' => e = .returned (.string (bs l ++ bs [dg n])) ∧ RowKit.Below w.heap.size w w' := by
  have h1 : ¬ ((n : Int) < 10) := by omega
  have q1 : decide ((n : Int) < 10) = false := by simp; omega
  have q2 : (n : Int).tdiv 10 = (q : Int) := by rw [← hq]; rfl
  have q3 : (n : Int).tmod 10 = (r : Int) := by rw [← hr]; rfl
  have r1 : (r : Int) < 10 := by omega
  have r0 : r < 10 := by omega
  have w1 : IntKind.i64.wrap (q : Int) = (q : Int) := IntWalk.i64_in _ ⟨by omega, by omega⟩
  have w2 : IntKind.i64.wrap (48 + (r : Int)) = 48 + (r : Int) := IntWalk.i64_in _ ⟨by omega, by omega⟩
  have w3 : IntKind.u8.wrap (48 + (r : Int)) = 48 + (r : Int) := wrap8 ⟨by omega, by omega⟩
  have hc : ∀ V B, V.heap[B]? = some (.cells #[.int .u8 (48 + (r : Int))] 5 (0, 0)) → ((convert 57 9 (.slice (some ⟨B, 0, none⟩) 1 1)).run Tryd.prog V).andThen (fun a w' => Result.ok (Next.value a) w') = .ok (.value (.string (bs [dg n]))) V := fun V B hV => conv_dg (by omega) hV
  have c0 := hc _ _ (heap_alloc_new w.drew (Obj.cells #[Value.int IntKind.u8 (48 + (r : Int))] 5))
  have c1 := hc ((w.alloc (Obj.cells #[Value.int IntKind.u8 (48 + (r : Int))] 5)).drew) _ (heap_alloc_new w (Obj.cells #[Value.int IntKind.u8 (48 + (r : Int))] 5))
  have HD : Hid (Calls Tryd.prog 38 #[.int .i64 q] w.drew fun e v2 => e = .returned (.string (bs l)) ∧ ((convert 57 9 (.slice (some ⟨v2.heap.size, 0, none⟩) 1 1)).run Tryd.prog (v2.alloc (Obj.cells #[Value.int IntKind.u8 (48 + (r : Int))] 5))).andThen (fun a w' => Result.ok (Next.value a) w') = .ok (.value (.string (bs [dg n]))) (v2.alloc (Obj.cells #[Value.int IntKind.u8 (48 + (r : Int))] 5)) ∧ Hid (Fr (fun _ => False) w v2)) :=
    (hrec w.drew).mono fun e v2 ⟨he, b⟩ => ⟨he, hc _ _ (heap_alloc_new v2 _), ((Fr.refl (fun _ => False) w).drew).trans (Fr.of_below b)⟩
  have HA : Hid (Calls Tryd.prog 38 #[.int .i64 q] (w.alloc (Obj.cells #[Value.int IntKind.u8 (48 + (r : Int))] 5)).drew fun e v2 => e = .returned (.string (bs l)) ∧ ((convert 57 9 (.slice (some ⟨w.heap.size, 0, none⟩) 1 1)).run Tryd.prog v2).andThen (fun a w' => Result.ok (Next.value a) w') = .ok (.value (.string (bs [dg n]))) v2 ∧ Hid (Fr (fun _ => False) w v2)) :=
    (hrec _).mono fun e v2 ⟨he, b⟩ => ⟨he, hc _ _ ((Fr.of_below (X := fun _ => False) b).blk (heap_alloc_new w (Obj.cells #[Value.int IntKind.u8 (48 + (r : Int))] 5)) fun e => e), (((Fr.refl (fun _ => False) w).alloc _).drew).trans (Fr.of_below b)⟩
  have hn2 : (bs l).size ≤ 1000000 := by rw [bs_size]; omega
  have mixed : (Tryd.prog).follows Departure.mixedOrders = true := by kernel_rfl
  clear hrec hc
  go_enter Tryd.func38, Tryd.ntmps38
  go_upto_region 3 with fail
  go_region_with_o (first | (with_reducible refine HD.out.mono ?_; rintro e v2 ⟨rfl, g1, HV⟩) | (with_reducible refine HA.out.mono ?_; rintro e v2 ⟨rfl, g1, HV⟩))
  all_goals go_wp2_with fail
  all_goals go_ret
  all_goals first
    | exact ⟨rfl, (HV.out.alloc _).below (Nat.le_refl _) fun _ _ e => e.elim⟩
    | exact ⟨rfl, HV.out.below (Nat.le_refl _) fun _ _ e => e.elim⟩
theorem dec_len : ∀ (k n : Nat), n < 10 ^ (k + 1) → (Lib.decDigits n).length ≤ k + 1
  | 0, n, h => by
    unfold Lib.decDigits
    rw [dif_pos (by omega)]
    exact Nat.le_refl _
  | k + 1, n, h => by
    unfold Lib.decDigits
    split
    · simp
    · have := dec_len k (n / 10) (by rw [Nat.pow_succ] at h; omega)
      rw [List.length_append]
      simp
      omega
theorem dec_len19 {n : Nat} (h : n < 9223372036854775808) : (Lib.decDigits n).length ≤ 19 := dec_len 18 n (by omega)
theorem digits_all (n : Nat) (h : n < 9223372036854775808) (w : World) : Calls Tryd.prog 38 #[.int .i64 n] w fun e w' => e = .returned (.string (bs (Lib.decDigits n))) ∧ RowKit.Below w.heap.size w w' := by
  induction n using Nat.strongRecOn generalizing w with
  | ind n ih =>
    by_cases h1 : n < 10
    · have := digits_one n h1 w
      unfold Lib.decDigits
      rw [dif_pos h1]
      have e : dg n = UInt8.ofNat (48 + n) := by unfold dg; rw [Nat.mod_eq_of_lt h1]
      rw [← e]
      exact this
    · have := digits_more n (n / 10) (n % 10) (by omega) h rfl rfl (Lib.decDigits (n / 10)) (Nat.le_trans (dec_len19 (by omega)) (by decide)) (fun V => ih (n / 10) (by omega) (by omega) V) w
      rw [bs_append] at this
      unfold Lib.decDigits
      rw [dif_neg h1]
      have e : dg n = UInt8.ofNat (48 + n % 10) := rfl
      rw [← e]
      exact this
theorem itoa_len {n : Int} (h0 : -9223372036854775808 ≤ n) (h1 : n ≤ 9223372036854775807) : (Lib.itoa n).length ≤ 20 := by
  unfold Lib.itoa
  split
  · have := dec_len 18 n.natAbs (by omega)
    simp
    omega
  · have := dec_len19 (n := n.toNat) (by omega)
    omega
set_option maxRecDepth 100000 in
set_option maxHeartbeats 4000000 in
theorem num_pos (n : Int) (h : 0 ≤ n) (h1 : n ≤ 9223372036854775807) (w : World) : Calls Tryd.prog 28 #[.int .i64 n] w fun e w' => e = .returned (.string (bs (Lib.itoa n))) ∧ RowKit.Below w.heap.size w w' := by
  have hd := digits_all n.toNat (by omega) w
  rw [Int.toNat_of_nonneg h] at hd
  have he : Lib.itoa n = Lib.decDigits n.toNat := by unfold Lib.itoa; rw [if_neg (by omega)]
  rw [he]
  have HD := Lib.hid hd
  have q1 : n ≥ 0 := h
  have q2 : decide (0 ≤ n) = true := by simpa using h
  clear hd he
  go_enter Tryd.func28, Tryd.ntmps28
  go_wp2_with fail
  refine HD.out.mono ?_
  rintro e w1 ⟨rfl, b1⟩
  have B1 := Lib.hid b1
  clear b1
  go_wp2_with fail
  go_ret
  exact ⟨rfl, B1.out⟩
set_option maxRecDepth 100000 in
set_option maxHeartbeats 4000000 in
theorem num_small (n : Int) (h : n < 0) (h1 : -10 < n) (w : World) : Calls Tryd.prog 28 #[.int .i64 n] w fun e w' => e = .returned (.string (bs (Lib.itoa n))) ∧ RowKit.Below w.heap.size w w' := by
  have hd := digits_all n.natAbs (by omega) w
  rw [show ((n.natAbs : Nat) : Int) = -n by omega] at hd
  have he : bs (Lib.itoa n) = ⟨#[45]⟩ ++ bs (Lib.decDigits n.natAbs) := by
    unfold Lib.itoa
    rw [if_pos h]
    exact (bs_append [45] _).symm
  rw [he]
  have hl : (Lib.decDigits n.natAbs).length ≤ 19 := dec_len19 (by omega)
  obtain ⟨sd, hsd⟩ : ∃ sd, bs (Lib.decDigits n.natAbs) = sd := ⟨_, rfl⟩
  have hsz : sd.size ≤ 19 := by rw [← hsd, bs_size]; exact hl
  rw [hsd] at hd ⊢
  have HD := Lib.hid hd
  have q1 : ¬ n ≥ 0 := by omega
  have q2 : decide (0 ≤ n) = false := by simp; omega
  have q3 : n > -10 := h1
  have q4 : decide (-10 < n) = true := by simpa using h1
  have w1 : IntKind.i64.wrap (-n) = -n := IntWalk.i64_in _ ⟨by omega, by omega⟩
  clear hd he hsd hl
  go_enter Tryd.func28, Tryd.ntmps28
  go_wp2_with fail
  refine HD.out.mono ?_
  rintro e w1 ⟨rfl, b1⟩
  have B1 := Lib.hid b1
  clear b1
  go_wp2_with fail
  go_ret
  exact ⟨rfl, B1.out⟩
theorem tmod_neg10 (n : Int) (h : n ≤ 0) : -10 < n.tmod 10 ∧ n.tmod 10 ≤ 0 := by
  have e : n.tmod 10 = -((-n).tmod 10) := by rw [Int.neg_tmod]; omega
  have e2 : (-n).tmod 10 = (-n) % 10 := Int.tmod_eq_emod_of_nonneg (by omega)
  rw [e, e2]
  omega
set_option maxRecDepth 100000 in
set_option maxHeartbeats 4000000 in
theorem num_more (n q r : Int) (h : n ≤ -10) (h0 : -9223372036854775808 ≤ n) (hq : n.tdiv 10 = q) (hr : n.tmod 10 = r) (hrec : ∀ W, Calls Tryd.prog 28 #[.int .i64 q] W fun e w' => e = .returned (.string (bs (Lib.itoa q))) ∧ RowKit.Below W.heap.size W w') (w : World) : Calls Tryd.prog 28 #[.int .i64 n] w fun e w' => e = .returned (.string (bs (Lib.itoa n))) ∧ RowKit.Below w.heap.size w w' := by
  have hdm := Int.mul_tdiv_add_tmod n 10
  rw [hq, hr] at hdm
  have hr2 : -10 < r ∧ r ≤ 0 := by
    subst hr
    exact tmod_neg10 n (by omega)
  have hd := fun W => digits_all r.natAbs (by omega) W
  simp only [show ((r.natAbs : Nat) : Int) = -r by omega] at hd
  have he : bs (Lib.itoa n) = bs (Lib.itoa q) ++ bs (Lib.decDigits r.natAbs) := by
    rw [bs_append]
    congr 1
    unfold Lib.itoa
    rw [if_pos (by omega), if_pos (by omega)]
    rw [List.cons_append]
    congr 1
    have e1 : q.natAbs = n.natAbs / 10 := by omega
    have e2 : r.natAbs = n.natAbs % 10 := by omega
    rw [e1, e2]
    conv => lhs; unfold Lib.decDigits
    rw [dif_neg (by omega)]
    congr 1
    unfold Lib.decDigits
    rw [dif_pos (by omega)]
  rw [he]
  have hl : (Lib.decDigits r.natAbs).length ≤ 19 := dec_len19 (by omega)
  have hl2 := itoa_len (n := q) (by omega) (by omega)
  obtain ⟨sd, hsd⟩ : ∃ sd, bs (Lib.decDigits r.natAbs) = sd := ⟨_, rfl⟩
  have hsz : sd.size ≤ 19 := by rw [← hsd, bs_size]; exact hl
  obtain ⟨sq, hsq⟩ : ∃ sq, bs (Lib.itoa q) = sq := ⟨_, rfl⟩
  have hsz2 : sq.size ≤ 20 := by rw [← hsq, bs_size]; exact hl2
  simp only [hsd] at hd ⊢
  simp only [hsq] at hrec ⊢
  have HD := Lib.hid hd
  have HRE := Lib.hid hrec
  have q1 : ¬ n ≥ 0 := by omega
  have q2 : decide (0 ≤ n) = false := by simp; omega
  have q3 : ¬ n > -10 := by omega
  have q4 : decide (-10 < n) = false := by simp; omega
  have w0 : IntKind.i64.wrap q = q := IntWalk.i64_in _ ⟨by omega, by omega⟩
  have w1 : IntKind.i64.wrap (-r) = -r := IntWalk.i64_in _ ⟨by omega, by omega⟩
  have w2 : IntKind.i64.wrap r = r := IntWalk.i64_in _ ⟨by omega, by omega⟩
  clear hd he hsd hl hrec hsq hl2 hdm
  go_enter Tryd.func28, Tryd.ntmps28
  go_wp2_with fail
  refine (HRE.out _).mono ?_
  rintro e w3 ⟨rfl, b3⟩
  have B3 := Lib.hid b3
  clear b3
  go_wp2_with fail
  refine (HD.out _).mono ?_
  rintro e w4 ⟨rfl, b4⟩
  have B4 := Lib.hid (B3.out.trans (b4.mono B3.out.size))
  clear b4
  go_wp2_with fail
  go_ret
  exact ⟨rfl, B4.out⟩
theorem num_all (n : Int) (h0 : -9223372036854775808 ≤ n) (h1 : n ≤ 9223372036854775807) (w : World) : Calls Tryd.prog 28 #[.int .i64 n] w fun e w' => e = .returned (.string (bs (Lib.itoa n))) ∧ RowKit.Below w.heap.size w w' := by
  have key : ∀ (m : Nat) (n : Int), n.natAbs = m → -9223372036854775808 ≤ n → n ≤ 9223372036854775807 → ∀ W, Calls Tryd.prog 28 #[.int .i64 n] W fun e w' => e = .returned (.string (bs (Lib.itoa n))) ∧ RowKit.Below W.heap.size W w' := by
    intro m
    induction m using Nat.strongRecOn with
    | ind m ih =>
      intro n hn h0 h1 W
      by_cases hp : 0 ≤ n
      · exact num_pos n hp h1 W
      · by_cases hs : -10 < n
        · exact num_small n (by omega) hs W
        · have hdm := Int.mul_tdiv_add_tmod n 10
          obtain ⟨h2, h3⟩ := tmod_neg10 n (by omega)
          exact num_more n _ _ (by omega) h0 rfl rfl (fun V => ih (n.tdiv 10).natAbs (by omega) _ rfl (by omega) (by omega) V) W
  exact key _ n rfl h0 h1 w
end Go.Proofs.YtadojlmjapmbhaaDoor
end
section
/-
  DERIVED: THE SHELF's CONTRACTS AT THIS DUMP, IN PLAIN WORDS (tools/lay-plain.mjs out of 'YtadojlmjapmbhaaDoorShelfL.lean', which tools/lay-shelf.mjs wrote): THE SAME DECLARATIONS UNDER THE SAME NAMES: 'import', 'namespace', 'open', 'def', 'theorem' AND NOTHING ELSE: no command of the shelf's: FOR A HAND-IN. Each laying: the table of numbers ('.._ren') and one theorem, a field a fact of the dump's own or the kernel's comparison; each contract: ONE APPLICATION.
-/
namespace Go.Proofs
open Go.Shelf
def Tryd.lays156_ren : Go.Shelf.Ren := ⟨fun | 156 => 17 | 165 => 29 | 166 => 30 | 169 => 31 | 240 => 39 | 241 => 40 | 276 => 50 | 277 => 51 | n => n, fun | 31 => 34 | 9 => 9 | 3 => 3 | 4 => 4 | 0 => 0 | 20 => 20 | 72 => 59 | 76 => 63 | 70 => 56 | 37 => 57 | 75 => 62 | 127 => 70 | 164 => 78 | 5 => 5 | 80 => 65 | n => n, fun | n => n⟩
theorem Tryd.lays156 : Go.Proofs.Lays.n156 Tryd.prog Tryd.lays156_ren := {
  mixed := by kernel_rfl
  f156 := Tryd.func17.trans (congrArg some (by kernel_rfl))
  f165 := Tryd.func29.trans (congrArg some (by kernel_rfl))
  f166 := Tryd.func30.trans (congrArg some (by kernel_rfl))
  f169 := Tryd.func31.trans (congrArg some (by kernel_rfl))
  f240 := Tryd.func39.trans (congrArg some (by kernel_rfl))
  f241 := Tryd.func40.trans (congrArg some (by kernel_rfl))
  f276 := Tryd.func50.trans (congrArg some (by kernel_rfl))
  f277 := Tryd.func51.trans (congrArg some (by kernel_rfl))
  t0 := Tryd.underlying0
  a0 := Tryd.isAgg0
  z0 := Tryd.sizeOf0
  v0 := Tryd.zeroValue0
  t3 := Tryd.underlying3
  a3 := Tryd.isAgg3
  z3 := Tryd.sizeOf3
  v3 := Tryd.zeroValue3
  t4 := Tryd.underlying4
  a4 := Tryd.isAgg4
  z4 := Tryd.sizeOf4
  v4 := Tryd.zeroValue4
  t9 := Tryd.underlying9
  a9 := Tryd.isAgg9
  z9 := Tryd.sizeOf9
  v9 := Tryd.zeroValue9
  t20 := Tryd.underlying20
  a20 := Tryd.isAgg20
  z20 := Tryd.sizeOf20
  v20 := Tryd.zeroValue20
  t31 := Tryd.underlying34
  a31 := Tryd.isAgg34
  z31 := Tryd.sizeOf34
  v31 := Tryd.zeroValue34
  t37 := Tryd.underlying57
  a37 := Tryd.isAgg57
  z37 := Tryd.sizeOf57
  v37 := Tryd.zeroValue57
  t70 := Tryd.underlying56
  a70 := Tryd.isAgg56
  z70 := Tryd.sizeOf56
  v70 := Tryd.zeroValue56
  t72 := Tryd.underlying59
  a72 := Tryd.isAgg59
  z72 := Tryd.sizeOf59
  v72 := Tryd.zeroValue59
  t75 := Tryd.underlying62
  a75 := Tryd.isAgg62
  z75 := Tryd.sizeOf62
  v75 := Tryd.zeroValue62
  t76 := Tryd.underlying63
  a76 := Tryd.isAgg63
  z76 := Tryd.sizeOf63
  v76 := Tryd.zeroValue63
  t127 := Tryd.underlying70
  a127 := Tryd.isAgg70
  z127 := Tryd.sizeOf70
  v127 := Tryd.zeroValue70
  t164 := Tryd.underlying78
  a164 := Tryd.isAgg78
  z164 := Tryd.sizeOf78
  v164 := Tryd.zeroValue78 }
theorem Tryd.Builder_Extra_156 : Builder.Extra Tryd.prog Tryd.lays156_ren := {
  sizeBuilder := by kernel_rfl
  liesBuilder := by kernel_rfl
  t5 := Tryd.underlying5
  a5 := Tryd.isAgg5
  z5 := Tryd.sizeOf5
  v5 := Tryd.zeroValue5
  infoByte := by kernel_rfl
  cellsByte := by kernel_rfl
  sizeByte := by kernel_rfl
  neB5 := by decide }
open Go.RowKit in
/-- strings.Join: "Join concatenates the elements of its first argument to create a single string. The separator string sep is placed between elements in the resulting string.": HOWEVER MANY ELEMENTS. Below the heap's end the world is as it was. (LAID: no walk: one application.) -/
theorem Tryd.strings_Join (bk o c : Nat) (xs : List ByteArray) (sep : ByteArray) (w : World) (hcells : ∀ (j : Nat) x, xs[j]? = some x → w.cell? ⟨bk, o + j, none⟩ = some (.string x)) (hbk : bk < w.heap.size) (hN : xs.length ≤ 140737488355328) (hcap : xs.length ≤ c) (hlen : (Lib.join (xs.map (·.data.toList)) sep.data.toList).length ≤ 140737488355328) :
    Calls Tryd.prog 17 #[.slice (some ⟨bk, o, none⟩) xs.length c, .string sep] w fun e w' => e = .returned (.string ⟨(Lib.join (xs.map (·.data.toList)) sep.data.toList).toArray⟩) ∧ Below w.heap.size w w' := Any.strings_Join Tryd.lays156 Tryd.Builder_Extra_156 bk o c xs sep w hcells hbk hN hcap hlen
open Go.RowKit in
/-- No element: the empty string; the world is as it was. (Whatever the slice's address and capacity: a nil slice too.) (LAID: no walk: one application.) -/
theorem Tryd.strings_Join_none (a : Option Addr) (c : Nat) (sep : ByteArray) (w : World) :
    Calls Tryd.prog 17 #[.slice a 0 c, .string sep] w fun e w' => e = .returned (.string ⟨#[]⟩) ∧ w' = w := Any.strings_Join_none Tryd.lays156 Tryd.Builder_Extra_156 a c sep w
def Tryd.laysM171_ren : Go.Shelf.Ren := ⟨fun | 171 => 27 | 243 => 37 | 246 => 49 | 283 => 56 | 284 => 57 | 285 => 58 | 286 => 59 | 129 => 66 | 317 => 65 | 318 => 67 | 319 => 68 | 320 => 69 | 337 => 72 | 338 => 73 | n => n, fun | 3 => 3 | 9 => 9 | 2 => 2 | 4 => 4 | 171 => 83 | 0 => 0 | 53 => 84 | 37 => 57 | 5 => 5 | 173 => 87 | 212 => 98 | 51 => 99 | 20 => 20 | 213 => 100 | 46 => 90 | 232 => 106 | 233 => 107 | n => n, fun | 17 => 5 | 18 => 6 | 19 => 7 | n => n⟩
theorem Tryd.laysM171 : Go.Proofs.LaysM.n171 Tryd.prog Tryd.laysM171_ren := {
  mixed := by kernel_rfl
  f129 := Tryd.func66.trans (congrArg some (by kernel_rfl))
  f171 := Tryd.func27.trans (congrArg some (by kernel_rfl))
  f243 := Tryd.func37.trans (congrArg some (by kernel_rfl))
  f246 := Tryd.func49.trans (congrArg some (by kernel_rfl))
  f283 := Tryd.func56.trans (congrArg some (by kernel_rfl))
  f284 := Tryd.func57.trans (congrArg some (by kernel_rfl))
  f285 := Tryd.func58.trans (congrArg some (by kernel_rfl))
  f286 := Tryd.func59.trans (congrArg some (by kernel_rfl))
  f317 := Tryd.func65.trans (congrArg some (by kernel_rfl))
  f318 := Tryd.func67.trans (congrArg some (by kernel_rfl))
  f319 := Tryd.func68.trans (congrArg some (by kernel_rfl))
  f320 := Tryd.func69.trans (congrArg some (by kernel_rfl))
  f337 := Tryd.func72.trans (congrArg some (by kernel_rfl))
  f338 := Tryd.func73.trans (congrArg some (by kernel_rfl))
  t0 := Tryd.underlying0
  a0 := Tryd.isAgg0
  z0 := Tryd.sizeOf0
  v0 := Tryd.zeroValue0
  t2 := Tryd.underlying2
  a2 := Tryd.isAgg2
  z2 := Tryd.sizeOf2
  v2 := Tryd.zeroValue2
  t3 := Tryd.underlying3
  a3 := Tryd.isAgg3
  z3 := Tryd.sizeOf3
  v3 := Tryd.zeroValue3
  t4 := Tryd.underlying4
  a4 := Tryd.isAgg4
  z4 := Tryd.sizeOf4
  v4 := Tryd.zeroValue4
  t5 := Tryd.underlying5
  a5 := Tryd.isAgg5
  z5 := Tryd.sizeOf5
  v5 := Tryd.zeroValue5
  t9 := Tryd.underlying9
  a9 := Tryd.isAgg9
  z9 := Tryd.sizeOf9
  v9 := Tryd.zeroValue9
  t20 := Tryd.underlying20
  a20 := Tryd.isAgg20
  z20 := Tryd.sizeOf20
  v20 := Tryd.zeroValue20
  t37 := Tryd.underlying57
  a37 := Tryd.isAgg57
  z37 := Tryd.sizeOf57
  v37 := Tryd.zeroValue57
  t46 := Tryd.underlying90
  a46 := Tryd.isAgg90
  z46 := Tryd.sizeOf90
  v46 := Tryd.zeroValue90
  t51 := Tryd.underlying99
  a51 := Tryd.isAgg99
  z51 := Tryd.sizeOf99
  v51 := Tryd.zeroValue99
  t53 := Tryd.underlying84
  a53 := Tryd.isAgg84
  z53 := Tryd.sizeOf84
  v53 := Tryd.zeroValue84
  t171 := Tryd.underlying83
  a171 := Tryd.isAgg83
  z171 := Tryd.sizeOf83
  v171 := Tryd.zeroValue83
  t173 := Tryd.underlying87
  a173 := Tryd.isAgg87
  z173 := Tryd.sizeOf87
  v173 := Tryd.zeroValue87
  t212 := Tryd.underlying98
  a212 := Tryd.isAgg98
  z212 := Tryd.sizeOf98
  v212 := Tryd.zeroValue98
  t213 := Tryd.underlying100
  a213 := Tryd.isAgg100
  z213 := Tryd.sizeOf100
  t232 := Tryd.underlying106
  a232 := Tryd.isAgg106
  z232 := Tryd.sizeOf106
  v232 := Tryd.zeroValue106
  t233 := Tryd.underlying107
  a233 := Tryd.isAgg107
  z233 := Tryd.sizeOf107
  v233 := Tryd.zeroValue107
  g17 := by kernel_rfl
  g18 := by kernel_rfl
  g19 := by kernel_rfl
  i0 := by kernel_rfl
  i2 := by kernel_rfl
  i3 := by kernel_rfl
  i4 := by kernel_rfl
  i5 := by kernel_rfl
  i9 := by kernel_rfl
  i20 := by kernel_rfl
  i37 := by kernel_rfl
  i46 := by kernel_rfl
  i51 := by kernel_rfl
  i53 := by kernel_rfl
  i171 := by kernel_rfl
  i173 := by kernel_rfl
  i212 := by kernel_rfl
  i232 := by kernel_rfl
  i233 := by kernel_rfl
  m17 := by kernel_rfl
  m18 := by kernel_rfl
  m19 := by kernel_rfl }
open Go.RowKit Go.Sort Go.Lib in
/-- strconv.Itoa: "Itoa is equivalent to FormatInt(int64(i), 10).": i's DECIMAL NUMERAL ('Lib.itoa': a '-' where i is negative, then the digits), FOR EVERY int. The world behind the call: the world before it, new blocks behind the heap (the library's 'var a [24]byte'), draws. (LAID: no walk: one application.) -/
theorem Tryd.strconv_Itoa (n : Int) (h0 : -9223372036854775808 ≤ n) (h1 : n ≤ 9223372036854775807) (w : World) (htab : Lib.TabIs Tryd.prog w "internal/strconv.uint64pow10" .u64 Lib.pow10Tab) :
    Calls Tryd.prog 27 #[.int .i64 n] w fun e w' => e = .returned (.string ⟨(Lib.itoa n).toArray⟩) ∧ ∃ k os, w' = grow (w.drewN k) os := Any.strconv_Itoa Tryd.laysM171 n h0 h1 w htab
end Go.Proofs
end
section
/- Layer 15: what is told of any server, as a function that tells. -/
namespace Go.Proofs.YtadojlmjapmbhaaDoor
set_option linter.unusedVariables false
set_option linter.unusedSimpArgs false
open Go Go.RowKit Go.Shelf Go.Lib
attribute [local go_sem] Oper.semAt_some

def fixD : List UInt8 := [67, 65, 83, 69, 77, 65, 80, 80, 73, 78, 71, 61, 114, 102, 99, 49, 52, 53, 57, 32, 67, 72, 65, 78, 84, 89, 80, 69, 83, 61, 35, 32, 80, 82, 69, 70, 73, 88, 61, 40, 111, 118, 41, 64, 43, 32, 67, 72, 65, 78, 77, 79, 68, 69, 83, 61, 98, 44, 107, 44, 108, 44, 105, 109, 110, 115, 116, 32, 78, 73, 67, 75, 76, 69, 78, 61, 49, 54, 32, 67, 72, 65, 78, 78, 69, 76, 76, 69, 78, 61, 53, 48, 32, 77, 79, 68, 69, 83, 61, 52, 32, 77, 65, 88, 84, 65, 82, 71, 69, 84, 83, 61, 52, 32, 84, 79, 80, 73, 67, 76, 69, 78, 61, 50, 48, 48]
def fixL : List (List UInt8) := [[67, 65, 83, 69, 77, 65, 80, 80, 73, 78, 71, 61, 114, 102, 99, 49, 52, 53, 57], [67, 72, 65, 78, 84, 89, 80, 69, 83, 61, 35], [80, 82, 69, 70, 73, 88, 61, 40, 111, 118, 41, 64, 43], [67, 72, 65, 78, 77, 79, 68, 69, 83, 61, 98, 44, 107, 44, 108, 44, 105, 109, 110, 115, 116], [78, 73, 67, 75, 76, 69, 78, 61, 49, 54], [67, 72, 65, 78, 78, 69, 76, 76, 69, 78, 61, 53, 48], [77, 79, 68, 69, 83, 61, 52], [77, 65, 88, 84, 65, 82, 71, 69, 84, 83, 61, 52], [84, 79, 80, 73, 67, 76, 69, 78, 61, 50, 48, 48]]
theorem fix_split : splitC 32 fixD = fixL := by decide +kernel
def toldL (c : Cf) : List (List UInt8) := (limC c).map fun x => x.1.data.toList ++ Lib.itoa x.2
def supL (c : Cf) : List (List UInt8) := fixL ++ toldL c
/-- the table of powers -/
def PowT (W : World) : Prop := Lib.TabIs Tryd.prog W "internal/strconv.uint64pow10" .u64 Lib.pow10Tab
theorem powG : Tryd.prog.globalNamed "internal/strconv.uint64pow10" = some 5 := by kernel_rfl
theorem PowT.lt {W : World} (h : PowT W) : 5 < W.heap.size := by
  unfold PowT Lib.TabIs World.var? at h
  rw [powG] at h
  simp only [Option.bind_some] at h
  split at h
  · rename_i cs t i hx
    exact (Array.getElem?_eq_some_iff.1 hx).1
  · cases h
theorem PowT.same {w W : World} (h : PowT w) (hs : W.heap[(5 : Nat)]? = w.heap[(5 : Nat)]?) : PowT W := by
  unfold PowT Lib.TabIs World.var? at h ⊢
  rw [powG] at h ⊢
  simp only [Option.bind_some] at h ⊢
  rw [hs]
  exact h
/-- each number is one of 64 bits -/
def Cf.ok (c : Cf) : Prop := ∀ x ∈ limC c, (-9223372036854775808 ≤ x.2 ∧ x.2 ≤ 9223372036854775807) ∧ x.1.size ≤ 20
theorem itoa_any (n : Int) (h0 : -9223372036854775808 ≤ n) (h1 : n ≤ 9223372036854775807) (w : World) (hp : PowT w) : Calls Tryd.prog 27 #[.int .i64 n] w fun e w' => e = .returned (.string (bs (Lib.itoa n))) ∧ Fr (fun _ => False) w w' := by
  refine (Tryd.strconv_Itoa n h0 h1 w hp).mono ?_
  rintro e w' ⟨rfl, k, os, rfl⟩
  refine ⟨rfl, ?_⟩
  have key : Fr (fun _ => False) (w.drewN k) (Go.Sort.grow (w.drewN k) os) := ⟨rfl, rfl, rfl, by simp [Go.Sort.grow], fun j hj _ => by
    show (((w.drewN k).heap ++ os)[j]?) = _
    exact Array.getElem?_append_left hj⟩
  exact ((Fr.refl (fun _ => False) w).drewN k).trans key
set_option maxRecDepth 100000 in
theorem support_any (c : Cf) (w : World) : Calls Tryd.prog 14 #[c.val] w fun e w' => e = .returned (.func (.func 25) #[] #[.pointer (some ⟨w.heap.size, 0, none⟩)]) ∧ w' = w.alloc c.obj := by
  unfold Cf.val Cf.obj
  go_enter Tryd.func14, Tryd.ntmps14
  go_wp2_with fail
  go_ret
  exact ⟨rfl, rfl⟩
def supY (B : Nat) (k : Nat) : Prop := k = B ∨ k = 5
set_option maxRecDepth 100000 in
set_option maxHeartbeats 16000000 in
theorem support_seqF (c : Cf) (hc : c.ok) (B : Nat) (w : World) (hB : w.heap[B]? = some c.obj) (hp : PowT w) : SeqF Tryd.prog 25 #[.pointer (some ⟨B, 0, none⟩)] encL (supY B) (supL c) w := fun l J Jx X V hs hYl hX hJ hJx hY h0 => by
  have kB := (hs B (.inl rfl)).trans hB
  have hpV : PowT V := hp.same (hs _ (.inr rfl))
  have hXB : ¬ X B := fun e => (hX B e).2 (.inl rfl)
  have hXP : ¬ X 5 := fun e => (hX _ e).2 (.inr rfl)
  have bx : ∀ k, X k → k < V.heap.size := fun k hk => (hX k hk).1
  obtain ⟨W0, hW0⟩ : ∃ W0, V.alloc (Obj.cells #[.func (.yield l) #[] #[]] 54) = W0 := ⟨_, rfl⟩
  have f0 : Fr (fun _ => False) V W0 := by rw [← hW0]; exact (Fr.refl _ V).alloc _
  have kN : W0.heap[V.heap.size]? = some (.cells #[.func (.yield l) #[] #[]] 54 (0, 0)) := by rw [← hW0]; exact heap_alloc_new _ _
  have z0 : W0.heap.size = V.heap.size + 1 := by rw [← hW0]; simp
  have H := Lib.hid (And.intro hX (And.intro hJ (And.intro hJx (And.intro hY (And.intro h0 (And.intro f0 (And.intro kN (And.intro z0 (And.intro kB (And.intro hpV (And.intro hXB (And.intro hXP bx))))))))))))
  have HW := Lib.hid hW0
  have HC := Lib.hid hc
  clear hs hYl hX hJ hJx hY h0 kB hpV hXB hXP bx f0 kN z0 hW0 hB hp hc
  refine (callsIn_wide (n := 20)).1 ?_
  refine callsIn_of_wp_marks Tryd.func25 rfl trivial ?_ rfl
  simp only [Tryd.ntmps25, List.size_toArray, List.length_cons, List.length_nil, Nat.reduceAdd, Nat.reduceSub, Array.replicate_succ, Array.replicate_zero, List.push_toArray, List.append_toArray, List.nil_append, List.cons_append]
  gi_wp2_with fail
  rw [HW.out]
  refine ⟨trivial, (calls_wide (.inl rfl) (splitc_any (bs fixD) 32 W0)).mono ?_⟩
  rintro e w2 ⟨rfl, hw2⟩
  obtain ⟨N, hN⟩ : ∃ N, V.heap.size = N := ⟨_, rfl⟩
  obtain ⟨hX, hJ, hJx, hY, h0, f0, kN, z0, kB, hpV, hXB, hXP, bx⟩ := H.out
  obtain ⟨S, hS⟩ : ∃ S, W0.heap.size = S := ⟨_, rfl⟩
  have f2 : Fr (fun _ => False) W0 w2 := by rw [hw2]; exact (((Fr.refl _ W0).alloc _).alloc _).alloc _
  have z2 : w2.heap.size = S + 3 := by rw [hw2, ← hS]; simp
  have kS : SplB S 32 (bs fixD) w2 := by
    rw [hw2, ← hS]
    refine ⟨blk_alloc (blk_alloc (heap_alloc_new _ _) _) _, blk_alloc (heap_alloc2_new _ _ _) _, ?_⟩
    have := heap_alloc2_new (W0.alloc (.cells #[.string (bs fixD)] 9)) (.cells #[.string ⟨#[32]⟩] 9) (.cells #[.int .i64 0] 3)
    rwa [World.size_alloc] at this
  have hSN : S = N + 1 := by omega
  have kN2 := f2.blk kN fun e => e
  have f02 : Fr (fun _ => False) V w2 := f0.trans f2
  have hj2 : J [] X w2 := hJ.fr h0 bx f02 fun _ e => e.elim
  rw [hN] at kN2
  rw [hS, hN]
  have H2 := Lib.hid (And.intro hN (And.intro z2 (And.intro kS (And.intro hSN (And.intro kN2 (And.intro f02 hj2))))))
  clear hw2 hX hJ hJx hY h0 f0 kN z0 kB hpV hXB hXP bx f2 hS hSN kN2 f02 hj2 z2 kS hN
  gi_wp2_with fail
  obtain ⟨hN, z2, kS, hSN, kN2, f02, hj2⟩ := H2.out
  obtain ⟨hX, hJ, hJx, hY, h0, f0, kN, z0, kB, hpV, hXB, hXP, bx⟩ := H.out
  refine wpIn_rangeZ (X := X) (Y := fun b => b = S + 1 ∨ b = S + 1 + 1) (Z := fun b => b = S) (xs := fixL) (encs := encL) (gf := 41) (lb := #[.pointer (some ⟨S + 1, 0, none⟩), .pointer (some ⟨S, 0, none⟩), .pointer (some ⟨S + 1 + 1, 0, none⟩)]) (fun pre X1 W => J pre X1 W) (fun c pre X1 W => c = .ret ∧ Jx pre X1 W)
    rfl (by have := split_seqZ S 32 (bs fixD) w2 (by decide) kS; rw [bs_toList, fix_split] at this; exact this) (fun k hk => ⟨by have := bx k hk; omega, fun e => by have := bx k hk; omega⟩) (fun b hb => by omega) (by omega) (enters_of Tryd.func41 (by kernel_rfl) rfl) (fun _ => rfl)
    hJ (fun c s X1 V1 V2 h h1 h2 => ⟨h.1, hJx _ X1 V1 V2 h.2 h1 h2⟩) hj2 ?round ?done ?stop
  case round =>
    rintro l2 pre x r X1 V1 K rb hl2 hpx hI hG hxl hF hlV hK
    dsimp only [encL]
    have HK := Lib.hid hK
    have HV := Lib.hid (And.intro hpx (And.intro hI (And.intro hG (And.intro hxl (And.intro hF (And.intro hlV hl2))))))
    clear hK hX hJ hJx hY h0 f0 kN z0 kB hpV hXB hXP bx hpx hI hG hxl hF hlV hl2 hN z2 kS hSN kN2 f02 hj2
    gi_wp2_with fail
    refine HK.out _ _ (Fr.refl _ _) fun Vb hfb hzb hsb hrb => ?_
    clear HK K
    obtain ⟨hpx, hI, hG, hxl, hF, hlV, hl2⟩ := HV.out
    obtain ⟨hN, z2, kS, hSN, kN2, f02, hj2⟩ := H2.out
    obtain ⟨hX, hJ, hJx, hY, h0, f0, kN, z0, kB, hpV, hXB, hXP, bx⟩ := H.out
    have hb1 : ∀ k, X1 k → k < V1.heap.size := fun k hk => (hG k hk).1
    have kNb := hfb.blk (hF.blk kN2 (fun e => e.elim (fun e => by have := bx _ e; omega) (by omega))) (by omega)
    have c3 := blk_cell kNb 0
    have hzs : Vb.heap.size = V1.heap.size := hzb
    have hfw : Fr X V Vb := ((f02.mono (Y := X) fun _ _ h => h.elim).trans3 hF fun k hk e => e.elim id (by omega)).trans3 hfb fun k hk e => by omega
    have hgw : GrowX X X1 V Vb := fun k hk => ⟨Nat.lt_of_lt_of_le (hb1 k hk) hfb.size, fun h => (hG k hk).2 (by omega)⟩
    have hjb : J pre X1 Vb := hJ.fr hI hb1 hfb fun k e h => hxl (e ▸ h)
    have hsp : pre ++ x :: (r ++ toldL c) = supL c := by unfold supL; rw [← hpx, List.append_assoc]; rfl
    have hyy := hY pre x _ X1 Vb hsp hgw hjb hfw
    obtain ⟨fn, tmps, assign, body, hy, hR⟩ := hyy
    dsimp only [encL] at hy
    have HE := Lib.hid (And.intro hb1 (And.intro hfb (And.intro hrb (And.intro hxl (And.intro hzs hlV)))))
    clear hsp hpx hI hG hxl hF hlV hl2 hX hJ hJx hY h0 f0 kN z0 kB hpV hXB hXP bx hb1 kNb hfw hgw hjb hzs hfb hzb hsb hrb hN z2 kS hSN kN2 f02 hj2
    gi_wp2_with fail
    refine (round_wide (.inr ⟨l2, rfl⟩) hR).mono ?_
    rintro e W5 ⟨X2, g2, f2, (⟨rfl, hJ3⟩ | ⟨rfl, hJx3⟩)⟩
    all_goals
      clear hR hy
      gi_wp2_with fail
      obtain ⟨hb1, hfb, hrb, hxl, hzs, hlV⟩ := HE.out
      refine ⟨X2, fun k hk => ⟨(g2 k hk).1, fun h => (g2 k hk).2 (by omega)⟩, (hfb.mono (Y := fun k => k = l2 ∨ X1 k) fun k _ e => .inl e).trans3 f2 fun k _ e => .inr e, f2.blk hrb hxl, ?_⟩
    · exact hJ3
    · exact ⟨rfl, hJx3⟩
  case stop =>
    rintro D c0 pre r X2 V2 hD hpr hxD hG hF ⟨rfl, hI⟩ hdef
    have hfw : Fr X V V2 := (f02.mono (Y := X) fun _ _ h => h.elim).trans3 hF fun k hk e => e.elim id (by omega)
    have hgw : GrowX X X2 V V2 := fun k hk => ⟨(hG k hk).1, fun h => (hG k hk).2 (by omega)⟩
    refine wpIn_ret ?_
    refine leaves_one D _ hdef fun w' hf => ⟨_, results_none rfl _ _ _, ⟨_, rfl⟩, X2, fun k hk => ⟨Nat.lt_of_lt_of_le (hgw k hk).1 hf.size, (hgw k hk).2⟩, hfw.trans3 hf fun k hk e => by omega, .inr ⟨_, r ++ toldL c, by unfold supL; rw [← hpr, List.append_assoc], hJx.fr hI (fun k hk => (hgw k hk).1) hf fun k e h => hxD (e ▸ h)⟩⟩
  case done =>
    rintro D1 X2 V2 hD1 hxD1 hG hF hI hdef1
    have hfw : Fr X V V2 := (f02.mono (Y := X) fun _ _ h => h.elim).trans3 hF fun k hk e => e.elim id (by omega)
    have hgw : GrowX X X2 V V2 := fun k hk => ⟨(hG k hk).1, fun h => (hG k hk).2 (by omega)⟩
    have kB2 := hfw.blk kB hXB
    have hp2 : PowT V2 := hpV.same (hfw.block _ hpV.lt hXP)
    have kNv := hF.blk kN2 (fun e => e.elim (fun e => by have := bx _ e; omega) (by omega))
    have hzV := hF.size
    have hpl := hpV.lt
    have hX2N : ¬ X2 N := fun e => by have := bx _ ((hG N e).2 (by omega)); omega
    have q0 := blk_cell kB2 0; have q1 := blk_cell kB2 1; have q2 := blk_cell kB2 2; have q3 := blk_cell kB2 3; have q4 := blk_cell kB2 4; have q5 := blk_cell kB2 5; have q6 := blk_cell kB2 6; have q7 := blk_cell kB2 7; have q8 := blk_cell kB2 8; have q9 := blk_cell kB2 9; have q10 := blk_cell kB2 10; have q11 := blk_cell kB2 11; have q12 := blk_cell kB2 12; have q13 := blk_cell kB2 13; have q14 := blk_cell kB2 14
    have HV2 := Lib.hid (And.intro hfw (And.intro hgw (And.intro kB2 (And.intro hp2 (And.intro kNv (And.intro hzV (And.intro hpl (And.intro hI (And.intro hdef1 (And.intro hxD1 (And.intro hD1 hX2N)))))))))))
    have hlim := Lib.hid (limits_any c V2)
    unfold Cf.val at hlim
    clear hX hJ hJx hY h0 f0 kN z0 kB hpV hXB hXP bx hN z2 kS hSN kN2 f02 hj2 hD1 hxD1 hG hF hI hdef1 hfw hgw kB2 hp2 kNv hzV hpl hX2N
    gi_wp2_with fail
    refine ⟨trivial, (calls_wide (.inl rfl) hlim.out).mono ?_⟩
    rintro e V3 ⟨rfl, hV3⟩
    obtain ⟨hfw, hgw, kB2, hp2, kNv, hzV, hpl, hI, hdef1, hxD1, hD1, hX2N⟩ := HV2.out
    obtain ⟨hX, hJ, hJx, hY, h0, f0, kN, z0, kB, hpV, hXB, hXP, bx⟩ := H.out
    obtain ⟨hN, z2, kS, hSN, kN2, f02, hj2⟩ := H2.out
    have f3 : Fr (fun _ => False) V2 V3 := by rw [hV3]; exact (Fr.refl _ V2).alloc _
    have kL : V3.heap[V2.heap.size]? = some c.obj := by rw [hV3]; exact heap_alloc_new V2 _
    have z3 : V3.heap.size = V2.heap.size + 1 := by rw [hV3]; simp
    have hI3 : J fixL X2 V3 := hJ.fr hI (fun k hk => (hgw k hk).1) f3 fun _ e => e.elim
    have hfw3 : Fr X V V3 := hfw.trans3 f3 fun _ _ e => e.elim
    have hgw3 : GrowX X X2 V V3 := fun k hk => ⟨Nat.lt_of_lt_of_le (hgw k hk).1 f3.size, (hgw k hk).2⟩
    have hdef3 := f3.blk hdef1 fun e => e
    have kN3 := f3.blk kNv fun e => e
    have hp3 : PowT V3 := hp2.same (f3.block _ hp2.lt fun e => e)
    have hX2P : ¬ X2 5 := fun e => hXP ((hgw _ e).2 hpV.lt)
    have H3 := Lib.hid (And.intro kL (And.intro z3 (And.intro hI3 (And.intro hfw3 (And.intro hgw3 (And.intro hdef3 (And.intro kN3 (And.intro hp3 (And.intro hX2N hX2P)))))))))
    clear hfw hgw kB2 hp2 kNv hzV hpl hI hdef1 hX hJ hJx hY h0 f0 kN z0 kB hpV hXB hXP bx hN z2 kS hSN kN2 f02 hj2 f3 kL z3 hI3 hfw3 hgw3 hdef3 kN3 hp3 hX2N hX2P hV3 q0 q1 q2 q3 q4 q5 q6 q7 q8 q9 q10 q11 q12 q13 q14 hD1 hxD1
    gi_wp2_with fail
    obtain ⟨kL, z3, hI3, hfw3, hgw3, hdef3, kN3, hp3, hX2N, hX2P⟩ := H3.out
    obtain ⟨hX, hJ, hJx, hY, h0, f0, kN, z0, kB, hpV, hXB, hXP, bx⟩ := H.out
    refine wpIn_rangeF (X := X2) (Y := fun k => k = V2.heap.size) (xs := limC c) (encs := encCap) (gf := 36) (lb := #[.pointer (some ⟨V2.heap.size, 0, none⟩)]) (fun pre X1 W => J (fixL ++ pre.map fun x => x.1.data.toList ++ Lib.itoa x.2) X1 W) (fun c1 pre X1 W => c1 = .ret ∧ Jx (fixL ++ pre.map fun x => x.1.data.toList ++ Lib.itoa x.2) X1 W)
      rfl (limits_seqF c _ V3 kL) (fun k hk => ⟨(hgw3 k hk).1, fun e => by have := (HV2.out.2.1 k hk).1; omega⟩) (fun k hk => by omega) (by omega) (enters_of Tryd.func36 (by kernel_rfl) rfl) (fun _ => rfl)
      (fun s => hJ _) (fun c1 s X1 V1 V2 h h1 h2 => ⟨h.1, hJx _ X1 V1 V2 h.2 h1 h2⟩) (by simpa using hI3) ?round ?done ?stop
    case round =>
      rintro l2 pre ⟨nm, v⟩ r X3 V4 K rb hl2 hpx hI hG hxl hF hlV hK
      dsimp only [encCap]
      have HK := Lib.hid hK
      have HV := Lib.hid (And.intro hpx (And.intro hI (And.intro hG (And.intro hxl (And.intro hF (And.intro hlV hl2))))))
      clear hK hX hJ hJx hY h0 f0 kN z0 kB hpV hXB hXP bx hpx hI hG hxl hF hlV hl2 kL z3 hI3 hfw3 hgw3 hdef3 kN3 hp3 hX2N hX2P
      gi_wp2_with fail
      refine HK.out _ _ (Fr.refl _ _) fun Vb hfb hzb hsb hrb => ?_
      clear HK K
      obtain ⟨hpx, hI, hG, hxl, hF, hlV, hl2⟩ := HV.out
      obtain ⟨kL, z3, hI3, hfw3, hgw3, hdef3, kN3, hp3, hX2N, hX2P⟩ := H3.out
      obtain ⟨hX, hJ, hJx, hY, h0, f0, kN, z0, kB, hpV, hXB, hXP, bx⟩ := H.out
      have hNl : N < V3.heap.size := blk_lt kN3
      have kNb := hfb.blk (hF.blk kN3 hX2N) (by omega)
      have hpb : PowT Vb := hp3.same ((hfb.block _ (by have := hF.size; have := hp3.lt; omega) (by have := hp3.lt; omega)).trans (hF.block _ hp3.lt hX2P))
      have hzs : Vb.heap.size = V4.heap.size := hzb
      have hb1 : ∀ k, X3 k → k < V4.heap.size := fun k hk => (hG k hk).1
      obtain ⟨⟨hv0, hv1⟩, hns⟩ := HC.out (nm, v) (by rw [← hpx]; exact List.mem_append_right _ List.mem_cons_self)
      dsimp only at hv0 hv1 hns
      have hit : ∀ W, Fr (fun _ => False) Vb W → Calls Tryd.prog 27 #[.int .i64 v] W fun e w' => e = .returned (.string (bs (Lib.itoa v))) ∧ Fr (fun _ => False) W w' := fun W hf => itoa_any v hv0 hv1 W (hpb.same (hf.block _ hpb.lt fun e => e))
      have hisz := itoa_len hv0 hv1
      obtain ⟨si, hsi⟩ : ∃ si, bs (Lib.itoa v) = si := ⟨_, rfl⟩
      have hsz : si.size ≤ 20 := by rw [← hsi, bs_size]; exact hisz
      simp only [hsi] at hit
      have hcl : ∀ W, Fr (fun _ => False) Vb W → W.cell? ⟨N, 0, none⟩ = some (.func (.yield l) #[] #[]) := fun W hf => (blk_cell (hf.blk kNb fun e => e) 0).trans rfl
      have hsum : ¬ 9223372036854775807 < nm.size + si.size := by omega
      have HIT := Lib.hid (And.intro hit (And.intro hcl hsi))
      have HB := Lib.hid (And.intro hfb (And.intro hrb (And.intro hzs hb1)))
      clear hpx hI hG hxl hF hlV hl2 kL z3 hI3 hfw3 hgw3 hdef3 kN3 hp3 hX2N hX2P hX hJ hJx hY h0 f0 kN z0 kB hpV hXB hXP bx kNb hpb hzs hb1 hit hisz hsi hcl hfb hzb hsb hrb hv0 hv1 hNl
      gi_wp2_with fail
      refine wpIn_class_tail (C := fun W => Fr (fun _ => False) Vb W) 5 (by kernel_rfl) (by kernel_rfl) (by kernel_rfl) ((Fr.refl (fun _ => False) Vb).drew) ?_
      simp only [List.take_succ_cons, List.take_zero, List.drop_succ_cons, List.drop_zero]
      refine quiet_step_w (fun _ => trivial) (fun K hK => ?_)
      go_simp
      refine ⟨.func (.yield l) #[] #[], fun W hW => ?_, hK _ ?_⟩
      · have c0 := HIT.out.2.1 W hW; go_simp
      clear hK K
      refine quiet_step_w (fun _ => trivial) (fun K hK => ?_)
      go_simp
      refine ⟨_, fun _ _ => rfl, hK _ ?_⟩
      clear hK K
      refine quiet_step_w (fun _ => trivial) (fun K hK => ?_)
      go_simp
      refine ⟨_, fun _ _ => rfl, hK _ ?_⟩
      clear hK K
      refine quiet_step_w (fun _ => trivial) (fun K hK => ?_)
      go_simp
      refine ⟨.string si, fun W hW => ?_, hK _ ?_⟩
      · refine (calls_wide (.inr ⟨l2, rfl⟩) (HIT.out.1 W hW)).mono ?_
        rintro e W2 ⟨rfl, f⟩
        exact ⟨rfl, hW.trans f⟩
      clear hK K
      refine quiet_step_w (fun _ => trivial) (fun K hK => ?_)
      go_simp
      refine ⟨_, fun _ _ => rfl, hK _ ?_⟩
      clear hK K
      refine wpQuietIn_nil ?_
      intro W hW
      obtain ⟨hpx, hI, hG, hxl, hF, hlV, hl2⟩ := HV.out
      obtain ⟨kL, z3, hI3, hfw3, hgw3, hdef3, kN3, hp3, hX2N, hX2P⟩ := H3.out
      obtain ⟨hX, hJ, hJx, hY, h0, f0, kN, z0, kB, hpV, hXB, hXP, bx⟩ := H.out
      obtain ⟨hfb, hrb, hzs, hb1⟩ := HB.out
      have hV3s := hfw3.size
      have hfW : Fr X V W := ((hfw3.trans3 hF fun k hk e => (hgw3 k e).2 hk).trans3 hfb fun k hk e => by omega).trans3 hW fun _ _ e => e.elim
      have hgW : GrowX X X3 V W := fun k hk => ⟨by have := hb1 k hk; have := hW.size; omega, fun h => (hgw3 k ((hG k hk).2 (by omega))).2 h⟩
      have hjW : J (fixL ++ pre.map fun x => x.1.data.toList ++ Lib.itoa x.2) X3 W := hJ.fr (hJ.fr hI hb1 hfb fun k e h => hxl (e ▸ h)) (fun k hk => by have := hb1 k hk; omega) hW fun _ e => e.elim
      have hsp : (fixL ++ pre.map fun x => x.1.data.toList ++ Lib.itoa x.2) ++ (nm.data.toList ++ Lib.itoa v) :: (r.map fun x => x.1.data.toList ++ Lib.itoa x.2) = supL c := by
        unfold supL toldL
        rw [← hpx, List.map_append, List.map_cons, List.append_assoc]
      have hyy := hY _ _ _ X3 W hsp hgW hjW hfW
      obtain ⟨fn, tmps, assign, body, hy, hR⟩ := hyy
      have hns2 : bs (nm.data.toList ++ Lib.itoa v) = nm ++ si := by rw [← bs_append, bs_of, HIT.out.2.2]
      dsimp only [encL] at hy
      rw [hns2] at hy
      have HE := Lib.hid (And.intro hb1 (And.intro hfb (And.intro hrb (And.intro hxl (And.intro hzs (And.intro hlV hW))))))
      clear hsp hpx hI hG hxl hF hlV hl2 kL z3 hI3 hfw3 hgw3 hdef3 kN3 hp3 hX2N hX2P hX hJ hJx hY h0 f0 kN z0 kB hpV hXB hXP bx hfb hrb hzs hb1 hV3s hfW hgW hjW hns2 hW
      gi_wp2_with fail
      refine (round_wide (.inr ⟨l2, rfl⟩) hR).mono ?_
      rintro e W5 ⟨X5, g2, f2, (⟨rfl, hJ3⟩ | ⟨rfl, hJx3⟩)⟩
      all_goals
        clear hR hy
        gi_wp2_with fail
        obtain ⟨hb1, hfb, hrb, hxl, hzs, hlV, hW⟩ := HE.out
        have hws := hW.size
        refine ⟨X5, fun k hk => ⟨(g2 k hk).1, fun h => (g2 k hk).2 (by omega)⟩, ((hfb.mono (Y := fun k => k = l2 ∨ X3 k) fun k _ e => .inl e).trans3 hW fun _ _ e => e.elim).trans3 f2 fun k _ e => .inr e, f2.blk (hW.blk hrb fun e => e) hxl, ?_⟩
      · simpa [List.map_append] using hJ3
      · exact ⟨rfl, by simpa [List.map_append] using hJx3⟩
    case stop =>
      rintro D2 c1 pre r X4 V4 hD2 hpr hxD2 hG hF ⟨rfl, hI⟩ hdef2
      have hD1 := HV2.out.2.2.2.2.2.2.2.2.2.2.1
      have hxD1 := HV2.out.2.2.2.2.2.2.2.2.2.1
      have hD1lt := blk_lt hdef3
      have hd1v := hF.blk hdef3 hxD1
      have hxD14 : ¬ X4 D1 := fun e => hxD1 ((hG D1 e).2 hD1lt)
      have hne : D1 ≠ D2 := by omega
      have hV3s := hfw3.size
      have hfW : Fr X V V4 := hfw3.trans3 hF fun k hk e => (hgw3 k e).2 hk
      have hgW : GrowX X X4 V V4 := fun k hk => ⟨(hG k hk).1, fun h => (hgw3 k ((hG k hk).2 (by omega))).2 h⟩
      refine wpIn_ret ?_
      refine leavesF [D2, D1] _ (by simpa using hne.symm) (fun D hD => by
        simp only [List.mem_cons, List.not_mem_nil, or_false] at hD
        rcases hD with rfl | rfl
        · exact hdef2
        · exact hd1v) fun w' hf => ⟨_, results_none rfl _ _ _, ⟨_, rfl⟩, X4, fun k hk => ⟨Nat.lt_of_lt_of_le (hgW k hk).1 hf.size, (hgW k hk).2⟩, hfW.trans3 hf fun k hk e => by
          simp only [List.mem_cons, List.not_mem_nil, or_false] at e
          have := HV2.out.1.size
          rcases e with rfl | rfl
          · omega
          · have := f0.size; have := H2.out.2.2.2.2.2.1.size; omega, .inr ⟨_, r.map fun x => x.1.data.toList ++ Lib.itoa x.2, by
            unfold supL toldL
            rw [← hpr, List.map_append, List.append_assoc], hJx.fr hI (fun k hk => (hgW k hk).1) hf fun k e h => by
          simp only [List.mem_cons, List.not_mem_nil, or_false] at e
          rcases e with rfl | rfl
          · exact hxD2 h
          · exact hxD14 h⟩⟩
    case done =>
      rintro D2 X4 V4 hD2 hxD2 hG hF hI hdef2
      have hD1 := HV2.out.2.2.2.2.2.2.2.2.2.2.1
      have hxD1 := HV2.out.2.2.2.2.2.2.2.2.2.1
      have hD1lt := blk_lt hdef3
      have hd1v := hF.blk hdef3 hxD1
      have hxD14 : ¬ X4 D1 := fun e => hxD1 ((hG D1 e).2 hD1lt)
      have hne : D1 ≠ D2 := by omega
      have hV3s := hfw3.size
      have hfW : Fr X V V4 := hfw3.trans3 hF fun k hk e => (hgw3 k e).2 hk
      have hgW : GrowX X X4 V V4 := fun k hk => ⟨(hG k hk).1, fun h => (hgw3 k ((hG k hk).2 (by omega))).2 h⟩
      have HE := Lib.hid (And.intro hd1v (And.intro hxD14 (And.intro hne (And.intro hfW (And.intro hgW (And.intro hI (And.intro hdef2 (And.intro hxD2 (And.intro hD1 hD2)))))))))
      clear hD1 hxD1 hD1lt hd1v hxD14 hne hV3s hfW hgW hI hdef2 hxD2 hD2 hG hF kL z3 hI3 hfw3 hgw3 hdef3 kN3 hp3 hX2N hX2P hX hJ hJx hY h0 f0 kN z0 kB hpV hXB hXP bx
      gi_wp2_with fail
      obtain ⟨hd1v, hxD14, hne, hfW, hgW, hI, hdef2, hxD2, hD1, hD2⟩ := HE.out
      obtain ⟨hX, hJ, hJx, hY, h0, f0, kN, z0, kB, hpV, hXB, hXP, bx⟩ := H.out
      refine leavesF [D2, D1] _ (by simpa using hne.symm) (fun D hD => by
        simp only [List.mem_cons, List.not_mem_nil, or_false] at hD
        rcases hD with rfl | rfl
        · exact hdef2
        · exact hd1v) fun w' hf => ⟨_, results_none rfl _ _ _, ⟨_, rfl⟩, X4, fun k hk => ⟨Nat.lt_of_lt_of_le (hgW k hk).1 hf.size, (hgW k hk).2⟩, hfW.trans3 hf fun k hk e => by
          simp only [List.mem_cons, List.not_mem_nil, or_false] at e
          have := HV2.out.1.size
          have := H3.out.2.2.2.1.size
          rcases e with rfl | rfl
          · omega
          · have := f0.size; have := H2.out.2.2.2.2.2.1.size; omega, .inl (hJ.fr hI (fun k hk => (hgW k hk).1) hf fun k e h => by
          simp only [List.mem_cons, List.not_mem_nil, or_false] at e
          rcases e with rfl | rfl
          · exact hxD2 h
          · exact hxD14 h)⟩
end Go.Proofs.YtadojlmjapmbhaaDoor
end
section
/- Layer 15: the answers' Support. -/
namespace Go.Proofs.YtadojlmjapmbhaaDoor
set_option linter.unusedVariables false
set_option linter.unusedSimpArgs false
open Go Go.RowKit Go.Shelf Go.Lib
attribute [local go_sem] Oper.semAt_some

def SupP (c : Cf) (w : World) (e : Ending) (w' : World) : Prop := (∃ A, e = .returned (.slice A 13 13) ∧ ReadsT w' A (supL c)) ∧ Fr (fun _ => False) w w'
theorem sup_len (c : Cf) : (supL c).length = 13 := by unfold supL toldL limC fixL; rfl
set_option maxRecDepth 100000 in
set_option maxHeartbeats 16000000 in
theorem supportR_any (c : Cf) (hc : c.ok) (w : World) : Calls Tryd.prog 16 #[c.val] w (SupP c w) := by
  obtain ⟨w1, hw1⟩ : ∃ w1, w.alloc c.obj = w1 := ⟨_, rfl⟩
  have k1 : w1.heap[w.heap.size]? = some c.obj := by rw [← hw1]; exact heap_alloc_new w _
  have f1 : Fr (fun _ => False) w w1 := by rw [← hw1]; exact (Fr.refl _ w).alloc _
  have hm : ∀ x ∈ limC c, ∀ W, Calls Tryd.prog 28 #[.int .i64 x.2] W fun e w' => e = .returned (.string (bs (Lib.itoa x.2))) ∧ Below W.heap.size W w' := fun x hx W => num_all x.2 (hc x hx).1.1 (hc x hx).1.2 W
  have hl : ∀ x ∈ limC c, (bs (Lib.itoa x.2)).size ≤ 20 := fun x hx => by rw [bs_size]; exact itoa_len (hc x hx).1.1 (hc x hx).1.2
  obtain ⟨N, hN⟩ : ∃ N, w.heap.size = N := ⟨_, rfl⟩
  rw [hN] at k1
  have m0 := hm (chanT, c.n2) (by simp [limC])
  have l0 := hl (chanT, c.n2) (by simp [limC])
  dsimp only at m0 l0
  obtain ⟨s0, hs0⟩ : ∃ s, bs (Lib.itoa c.n2) = s := ⟨_, rfl⟩
  rw [hs0] at l0
  simp only [hs0] at m0
  have m1 := hm (maxT, c.n4) (by simp [limC])
  have l1 := hl (maxT, c.n4) (by simp [limC])
  dsimp only at m1 l1
  obtain ⟨s1, hs1⟩ : ∃ s, bs (Lib.itoa c.n4) = s := ⟨_, rfl⟩
  rw [hs1] at l1
  simp only [hs1] at m1
  have m2 := hm (monT, c.n6) (by simp [limC])
  have l2 := hl (monT, c.n6) (by simp [limC])
  dsimp only at m2 l2
  obtain ⟨s2, hs2⟩ : ∃ s, bs (Lib.itoa c.n6) = s := ⟨_, rfl⟩
  rw [hs2] at l2
  simp only [hs2] at m2
  have m3 := hm (watT, c.n5) (by simp [limC])
  have l3 := hl (watT, c.n5) (by simp [limC])
  dsimp only at m3 l3
  obtain ⟨s3, hs3⟩ : ∃ s, bs (Lib.itoa c.n5) = s := ⟨_, rfl⟩
  rw [hs3] at l3
  simp only [hs3] at m3
  have hcl : ∀ W, Fr (fun _ => False) w1 W → W.cell? ⟨N, 6, none⟩ = some (.int .i64 c.n2) ∧ W.cell? ⟨N, 8, none⟩ = some (.int .i64 c.n4) ∧ W.cell? ⟨N, 10, none⟩ = some (.int .i64 c.n6) ∧ W.cell? ⟨N, 9, none⟩ = some (.int .i64 c.n5) := fun W hf => by
    have k := hf.blk k1 fun e => e
    exact ⟨blk_cell k 6, blk_cell k 8, blk_cell k 10, blk_cell k 9⟩
  have HCL := Lib.hid hcl
  have HM := Lib.hid (And.intro m0 (And.intro m1 (And.intro m2 m3)))
  have HS := Lib.hid (And.intro hs0 (And.intro hs1 (And.intro hs2 hs3)))
  have HF := Lib.hid (And.intro f1 (And.intro hN hw1))
  have u0 : ¬ 9223372036854775807 < 12 + s0.size := by omega
  have u1 : ¬ 9223372036854775807 < 10 + s1.size := by omega
  have u2 : ¬ 9223372036854775807 < 8 + s2.size := by omega
  have u3 : ¬ 9223372036854775807 < 6 + s3.size := by omega
  unfold Cf.obj at hw1
  have HW := Lib.hid hw1
  unfold Cf.val
  clear hcl m0 m1 m2 m3 hs0 hs1 hs2 hs3 f1 hw1 k1 hm hl
  refine (callsIn_wide (n := 20)).1 ?_
  refine callsIn_of_wp Tryd.func16 rfl trivial ?_ rfl
  simp only [Tryd.ntmps16, List.size_toArray, List.length_cons, List.length_nil, Nat.reduceAdd, Nat.reduceSub, Array.replicate_succ, Array.replicate_zero, List.push_toArray, List.append_toArray, List.nil_append, List.cons_append]
  gi_wp2_with fail
  rw [HW.out]
  try rw [hN]
  clear hN
  refine wpIn_class_tail (C := fun W => Fr (fun _ => False) w1 W) 16 (by kernel_rfl) (by kernel_rfl) (by kernel_rfl) ((Fr.refl (fun _ => False) w1).drew) ?_
  simp only [List.take_succ_cons, List.take_zero, List.drop_succ_cons, List.drop_zero]
  refine quiet_step_w (fun _ => trivial) (fun K hK => ?_)
  go_simp
  refine ⟨_, fun _ _ => rfl, hK _ ?_⟩
  clear hK K
  refine quiet_step_w (fun _ => trivial) (fun K hK => ?_)
  go_simp
  refine ⟨.int .i64 c.n2, fun W hW => ?_, hK _ ?_⟩
  · obtain ⟨c0, c1, c2, c3⟩ := HCL.out W hW; go_simp
  clear hK K
  refine quiet_step_w (fun _ => trivial) (fun K hK => ?_)
  go_simp
  refine ⟨.string s0, fun W hW => ?_, hK _ ?_⟩
  · refine (calls_wide (.inl rfl) (HM.out.1 W)).mono ?_
    rintro e W2 ⟨rfl, b⟩
    exact ⟨rfl, hW.trans (Fr.of_below b)⟩
  clear hK K
  refine quiet_step_w (fun _ => trivial) (fun K hK => ?_)
  go_simp
  refine ⟨_, fun _ _ => rfl, hK _ ?_⟩
  clear hK K
  refine quiet_step_w (fun _ => trivial) (fun K hK => ?_)
  go_simp
  refine ⟨_, fun _ _ => rfl, hK _ ?_⟩
  clear hK K
  refine quiet_step_w (fun _ => trivial) (fun K hK => ?_)
  go_simp
  refine ⟨.int .i64 c.n4, fun W hW => ?_, hK _ ?_⟩
  · obtain ⟨c0, c1, c2, c3⟩ := HCL.out W hW; go_simp
  clear hK K
  refine quiet_step_w (fun _ => trivial) (fun K hK => ?_)
  go_simp
  refine ⟨.string s1, fun W hW => ?_, hK _ ?_⟩
  · refine (calls_wide (.inl rfl) (HM.out.2.1 W)).mono ?_
    rintro e W2 ⟨rfl, b⟩
    exact ⟨rfl, hW.trans (Fr.of_below b)⟩
  clear hK K
  refine quiet_step_w (fun _ => trivial) (fun K hK => ?_)
  go_simp
  refine ⟨_, fun _ _ => rfl, hK _ ?_⟩
  clear hK K
  refine quiet_step_w (fun _ => trivial) (fun K hK => ?_)
  go_simp
  refine ⟨_, fun _ _ => rfl, hK _ ?_⟩
  clear hK K
  refine quiet_step_w (fun _ => trivial) (fun K hK => ?_)
  go_simp
  refine ⟨.int .i64 c.n6, fun W hW => ?_, hK _ ?_⟩
  · obtain ⟨c0, c1, c2, c3⟩ := HCL.out W hW; go_simp
  clear hK K
  refine quiet_step_w (fun _ => trivial) (fun K hK => ?_)
  go_simp
  refine ⟨.string s2, fun W hW => ?_, hK _ ?_⟩
  · refine (calls_wide (.inl rfl) (HM.out.2.2.1 W)).mono ?_
    rintro e W2 ⟨rfl, b⟩
    exact ⟨rfl, hW.trans (Fr.of_below b)⟩
  clear hK K
  refine quiet_step_w (fun _ => trivial) (fun K hK => ?_)
  go_simp
  refine ⟨_, fun _ _ => rfl, hK _ ?_⟩
  clear hK K
  refine quiet_step_w (fun _ => trivial) (fun K hK => ?_)
  go_simp
  refine ⟨_, fun _ _ => rfl, hK _ ?_⟩
  clear hK K
  refine quiet_step_w (fun _ => trivial) (fun K hK => ?_)
  go_simp
  refine ⟨.int .i64 c.n5, fun W hW => ?_, hK _ ?_⟩
  · obtain ⟨c0, c1, c2, c3⟩ := HCL.out W hW; go_simp
  clear hK K
  refine quiet_step_w (fun _ => trivial) (fun K hK => ?_)
  go_simp
  refine ⟨.string s3, fun W hW => ?_, hK _ ?_⟩
  · refine (calls_wide (.inl rfl) (HM.out.2.2.2 W)).mono ?_
    rintro e W2 ⟨rfl, b⟩
    exact ⟨rfl, hW.trans (Fr.of_below b)⟩
  clear hK K
  refine quiet_step_w (fun _ => trivial) (fun K hK => ?_)
  go_simp
  refine ⟨_, fun _ _ => rfl, hK _ ?_⟩
  clear hK K
  refine wpQuietIn_nil ?_
  intro W hW
  gi_wp2_with fail
  refine bodyPost_ret (results_tmp rfl _ _ _) rfl ⟨⟨some ⟨W.heap.size, 0, none⟩, rfl, fun h0 => ⟨W.heap.size, 0, rfl, by simp, fun j hj => ?_⟩⟩, ((HF.out.1.trans hW).alloc _)⟩
  rw [sup_len c] at hj
  have hjj : j = 0 ∨ j = 1 ∨ j = 2 ∨ j = 3 ∨ j = 4 ∨ j = 5 ∨ j = 6 ∨ j = 7 ∨ j = 8 ∨ j = 9 ∨ j = 10 ∨ j = 11 ∨ j = 12 := by omega
  obtain ⟨hs0, hs1, hs2, hs3⟩ := HS.out
  rcases hjj with rfl | rfl | rfl | rfl | rfl | rfl | rfl | rfl | rfl | rfl | rfl | rfl | rfl
  · exact (blk_cell (heap_alloc_new W _) 0).trans rfl
  · exact (blk_cell (heap_alloc_new W _) 1).trans rfl
  · exact (blk_cell (heap_alloc_new W _) 2).trans rfl
  · exact (blk_cell (heap_alloc_new W _) 3).trans rfl
  · exact (blk_cell (heap_alloc_new W _) 4).trans rfl
  · exact (blk_cell (heap_alloc_new W _) 5).trans rfl
  · exact (blk_cell (heap_alloc_new W _) 6).trans rfl
  · exact (blk_cell (heap_alloc_new W _) 7).trans rfl
  · exact (blk_cell (heap_alloc_new W _) 8).trans rfl
  · show _ = some (Value.string (bs (chanT.data.toList ++ Lib.itoa c.n2)))
    rw [← bs_append, hs0]
    exact (blk_cell (heap_alloc_new W _) 9).trans rfl
  · show _ = some (Value.string (bs (maxT.data.toList ++ Lib.itoa c.n4)))
    rw [← bs_append, hs1]
    exact (blk_cell (heap_alloc_new W _) 10).trans rfl
  · show _ = some (Value.string (bs (monT.data.toList ++ Lib.itoa c.n6)))
    rw [← bs_append, hs2]
    exact (blk_cell (heap_alloc_new W _) 11).trans rfl
  · show _ = some (Value.string (bs (watT.data.toList ++ Lib.itoa c.n5)))
    rw [← bs_append, hs3]
    exact (blk_cell (heap_alloc_new W _) 12).trans rfl
end Go.Proofs.YtadojlmjapmbhaaDoor
end
section
/- Layer 18: modes.Seq, the letters of a row, as a function that ranges; Takes on both sides. -/
namespace Go.Proofs.YtadojlmjapmbhaaDoor
set_option linter.unusedVariables false
set_option linter.unusedSimpArgs false
open Go.RowKit Go.Shelf
attribute [local go_sem] Oper.semAt_some

/-- a letter, and whether it is on -/
abbrev Letter := UInt8 × Bool
abbrev encLet (x : Letter) : Array Value := #[.int .u8 x.1.toNat, .bool x.2]
/-- the letters of a row, from a sign on -/
def seqL (on : Bool) : List UInt8 → List Letter
  | [] => []
  | c :: r => if c = 43 then seqL true r else if c = 45 then seqL false r else (c, on) :: seqL on r
theorem seqL_len (on : Bool) (l : List UInt8) : (seqL on l).length ≤ l.length := by
  induction l generalizing on with
  | nil => simp [seqL]
  | cons c r ih =>
    unfold seqL
    split
    · have := ih true; simp; omega
    · split
      · have := ih false; simp; omega
      · have := ih on; simp; omega
theorem seqL_at (on : Bool) (s : ByteArray) (k : Nat) (h : k < s.size) : seqL on (s.data.toList.drop k) = if s[k] = 43 then seqL true (s.data.toList.drop (k + 1)) else if s[k] = 45 then seqL false (s.data.toList.drop (k + 1)) else (s[k], on) :: seqL on (s.data.toList.drop (k + 1)) := by
  rw [List.drop_eq_getElem_cons (by simpa using h)]
  rfl





/-- block B lies as it lay -/
def KeptAt (B : Nat) (W1 W' : World) : Prop := W'.heap[B]? = W1.heap[B]?
theorem KeptAt.cell {B : Nat} {W1 W' : World} (h : KeptAt B W1 W') : W'.cell? ⟨B, 0, none⟩ = W1.cell? ⟨B, 0, none⟩ := World.cell?_of_block (w := W1) h

end Go.Proofs.YtadojlmjapmbhaaDoor
end
section
/- Layer 18: changes as data; Lists, the answers' Takes and Same. -/
namespace Go.Proofs.YtadojlmjapmbhaaDoor
set_option linter.unusedVariables false
set_option linter.unusedSimpArgs false
open Go.RowKit

/-- does a letter take an argument? -/
def takesB (c : UInt8) (on : Bool) : Bool := c == 111 || c == 118 || c == 98 || c == 107 || (c == 108 && on)



/-- a change: on, its letter, its argument -/
abbrev Chg := Bool × UInt8 × ByteArray
def chV (x : Chg) : Value := .agg #[.bool x.1, .int .u8 x.2.1.toNat, .string x.2.2]
def listsB (x : Chg) : Bool := x.2.1 == 98 && x.2.2.toList.isEmpty





def eqB (x y : Chg) : Bool := x.1 == y.1 && (x.2.1 == y.2.1 && x.2.2.toList == y.2.2.toList)
theorem eqB_iff {x y : Chg} : eqB x y = true ↔ x = y := by
  obtain ⟨a, b, c⟩ := x
  obtain ⟨a', b', c'⟩ := y
  unfold eqB
  simp only [Bool.and_eq_true, beq_iff_eq, Prod.mk.injEq]
  rw [ByteArray.toList_eq, ByteArray.toList_eq]
  constructor
  · rintro ⟨h1, h2, h3⟩; exact ⟨h1, h2, ba_ext h3⟩
  · rintro ⟨h1, h2, h3⟩; exact ⟨h1, h2, by rw [h3]⟩

def ReadsC (W : World) (v : Value) (l : List Chg) : Prop :=
  (v = .slice none 0 0 ∧ l = []) ∨ ∃ g off cap, v = .slice (some ⟨g, off, none⟩) l.length cap ∧ ∀ i (h : i < l.length), W.cell? ⟨g, off + i * 3, none⟩ = some (.bool l[i].1) ∧ W.cell? ⟨g, off + i * 3 + 1, none⟩ = some (.int .u8 l[i].2.1.toNat) ∧ W.cell? ⟨g, off + i * 3 + 2, none⟩ = some (.string l[i].2.2)

end Go.Proofs.YtadojlmjapmbhaaDoor
end
section
/- Layer 18: the answers' Parse. -/
namespace Go.Proofs.YtadojlmjapmbhaaDoor
set_option linter.unusedVariables false
set_option linter.unusedSimpArgs false
open Go.RowKit

/-- one letter more: the changes, the next argument, how many took one -/
abbrev PSt := List Chg × Nat × Nat
def noArg : ByteArray := ⟨#[]⟩
def stepP (ps : List ByteArray) (st : PSt) (x : Letter) : PSt :=
  if takesB x.1 x.2 = true then
    if st.2.2 = 4 then st
    else if h : st.2.1 < ps.length then (st.1 ++ [(x.2, x.1, ps[st.2.1])], st.2.1 + 1, st.2.2 + 1)
    else if x.1 = 98 then (st.1 ++ [(x.2, x.1, noArg)], st.2.1, st.2.2 + 1)
    else st
  else (st.1 ++ [(x.2, x.1, noArg)], st.2.1, st.2.2)
theorem stepP_no {ps : List ByteArray} {out : List Chg} {a n : Nat} {c : UInt8} {o : Bool} (h : takesB c o = false) : stepP ps (out, a, n) (c, o) = (out ++ [(o, c, noArg)], a, n) := by simp [stepP, h]
theorem stepP_full {ps : List ByteArray} {out : List Chg} {a : Nat} {c : UInt8} {o : Bool} (h : takesB c o = true) : stepP ps (out, a, 4) (c, o) = (out, a, 4) := by simp [stepP, h]
theorem stepP_arg {ps : List ByteArray} {out : List Chg} {a n : Nat} {c : UInt8} {o : Bool} (h : takesB c o = true) (hn : n ≠ 4) (ha : a < ps.length) : stepP ps (out, a, n) (c, o) = (out ++ [(o, c, ps[a])], a + 1, n + 1) := by simp [stepP, h, hn, ha]
theorem stepP_list {ps : List ByteArray} {out : List Chg} {a n : Nat} {o : Bool} (h : takesB 98 o = true) (hn : n ≠ 4) (ha : ¬ a < ps.length) : stepP ps (out, a, n) (98, o) = (out ++ [(o, 98, noArg)], a, n + 1) := by simp [stepP, h, hn, ha]
theorem stepP_drop {ps : List ByteArray} {out : List Chg} {a n : Nat} {c : UInt8} {o : Bool} (h : takesB c o = true) (hn : n ≠ 4) (ha : ¬ a < ps.length) (hc : c ≠ 98) : stepP ps (out, a, n) (c, o) = (out, a, n) := by simp [stepP, h, hn, ha, hc]
def parseM (ps : List ByteArray) : List Chg := if h : 0 < ps.length then ((seqL true ps[0].data.toList).foldl (stepP ps) ([], 1, 0)).1 else []
/-- changes as cells -/
def chL (l : List Chg) : List Value := l.flatMap fun x => [.bool x.1, .int .u8 x.2.1.toNat, .string x.2.2]
theorem chL_snoc (l : List Chg) (x : Chg) : chL (l ++ [x]) = chL l ++ [.bool x.1, .int .u8 x.2.1.toNat, .string x.2.2] := by simp [chL]



end Go.Proofs.YtadojlmjapmbhaaDoor
end
