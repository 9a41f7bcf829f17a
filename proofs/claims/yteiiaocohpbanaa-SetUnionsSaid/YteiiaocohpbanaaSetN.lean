/- Layer 10: the document's Same; sets that are none. -/
import Derived.Test.YteiiaocohpbanaaSetL
import Derived.BigQuiet
namespace Go.Proofs.Yteiiaocohpbanaa
set_option linter.unusedVariables false
set_option linter.unusedSimpArgs false
open Go Go.RowKit Go.Lib Go.Sort Go.Shelf

set_option maxHeartbeats 4000000 in
theorem same10_eq {w : World} (A B : Option Addr) (xs ys : List Int) (c d : Nat) (hlen : xs.length = ys.length) (hl : xs.length ≤ 1000000) (hA : ReadsI w A xs) (hB : ReadsI w B ys) :
    Calls Try.prog 14 #[.slice A xs.length c, .slice B ys.length d] w fun e w' => e = .returned (.bool (decide (xs = ys))) ∧ ∃ n, w' = w.drewN n := by
  have HA := Lib.hid hA
  have HB := Lib.hid hB
  have HL := Lib.hid hlen
  have hne : ((xs.length : Int) != (ys.length : Int)) = false := by rw [hlen]; simp
  clear hA hB hlen
  go_enter Try.func14, Try.ntmps14
  go_wp2_with fail
  go_loopw [5] (fun i wr => ∃ k : Nat, i = .int .i64 k ∧ k ≤ xs.length ∧ Hid (xs.take k = ys.take k ∧ ∃ n, wr = w.drewN n)) (fun i _ => xs.length - (intOf i).toNat)
  case atStart => exact ⟨0, rfl, Nat.zero_le _, rfl, 0, rfl⟩
  case round =>
    obtain ⟨k, rfl, hk, HQ⟩ := hrel
    by_cases hlt : k < xs.length
    · have hlt2 : k < ys.length := by have := HL.out; omega
      have hcell : ∀ p, wr.cell? p = w.cell? p := fun p => by obtain ⟨n, rfl⟩ := HQ.out.2; rfl
      obtain ⟨g, o, rfl, _, ha⟩ := HA.out (by omega)
      obtain ⟨g2, o2, rfl, _, hb⟩ := HB.out (by omega)
      have a1 := ha k hlt
      have b1 := hb k hlt2
      rw [← hcell] at a1 b1
      obtain ⟨x, hx⟩ : ∃ x, xs[k] = x := ⟨_, rfl⟩
      obtain ⟨y, hy⟩ : ∃ y, ys[k] = y := ⟨_, rfl⟩
      rw [hx] at a1
      rw [hy] at b1
      obtain ⟨eb, heb⟩ : ∃ eb, (x != y) = eb := ⟨_, rfl⟩
      have HE := Lib.hid (And.intro hx (And.intro hy heb))
      have hbb := heb
      clear hcell ha hb hx hy heb
      have p1 : (k : Int) < (xs.length : Int) := by omega
      have p2 : (k : Int) < (ys.length : Int) := by omega
      go_wp2_with fail
      go_quiet (fail)
      all_goals go_wp2_with fail
      · rename_i hx
        have hd : decide (xs = ys) = false := by
          rw [decide_eq_false_iff_not]
          intro e
          obtain ⟨h1, h2, h3⟩ := HE.out
          subst e
          rw [← h1, ← h2] at h3
          simp at h3
          subst h3
          cases hx
        obtain ⟨_, n, hn⟩ := HQ.out
        rw [hd]
        subst hn
        go_ret
        exact ⟨rfl, _, by rw [World.drewN_drewN]⟩
      · rename_i hx
        have h3 : xs[k] = ys[k] := by
          obtain ⟨h1, h2, h3⟩ := HE.out
          rw [h1, h2]
          have : (x != y) = false := by rw [h3]; simpa using hx
          simpa using this
        have h4 : xs.take (k + 1) = ys.take (k + 1) := by
          rw [List.take_succ_eq_append_getElem hlt, List.take_succ_eq_append_getElem hlt2, HQ.out.1, h3]
        obtain ⟨_, n, hn⟩ := HQ.out
        exact ⟨⟨k + 1, by go_num, by omega, h4, n + nq, by subst hn; rw [World.drewN_drewN]⟩, by simp [intOf]; omega⟩
    · obtain rfl : k = xs.length := by omega
      have hab : xs = ys := by
        have := HQ.out.1
        rw [List.take_of_length_le (Nat.le_refl _), List.take_of_length_le (by have := HL.out; omega)] at this
        exact this
      have hd : decide (xs = ys) = true := by simp [hab]
      obtain ⟨_, n, hn⟩ := HQ.out
      have p1 : ¬ ((xs.length : Int) < (xs.length : Int)) := by omega
      subst hn
      go_wp2_with fail
      go_ret
      exact ⟨rfl, _, rfl⟩
theorem set_add_nil (A : Option Addr) (l c : Nat) (w : World) : Calls Try.prog 11 #[.pointer none, .slice A l c] w fun e w' => e = .returned (.int .i64 0) ∧ w' = w := by
  go_enter Try.func11, Try.ntmps11
  go_wp2_with fail
  go_ret
  exact ⟨rfl, rfl⟩
theorem set_rem_nil (A : Option Addr) (l c : Nat) (w : World) : Calls Try.prog 9 #[.pointer none, .slice A l c] w fun e w' => e = .returned (.int .i64 0) ∧ w' = w := by
  go_enter Try.func9, Try.ntmps9
  go_wp2_with fail
  go_ret
  exact ⟨rfl, rfl⟩
theorem without_tells_nil (n : Nat) (hn : 2 ≤ n) (B B2 : Nat) (w : World) (hb : w.heap[B]? = some (.cells #[.nilFunc] 34 (0, 0))) :
    SeqT Fence.wide n Try.prog 29 #[.pointer (some ⟨B, 0, none⟩), .pointer (some ⟨B2, 0, none⟩)] encI (fun _ => False) (fun b => b = B) [] w := fun l J Jx V hV hJ hJx hY h0 => by
  have hbV := (hV.block B (blk_lt hb)).trans hb
  have hl := blk_lt hbV
  have hc := blk_cell (blk_alloc hbV (.cells #[.func (.yield l) #[] #[]] 39)) 0
  have HJ := Lib.hid hJ
  have hj := hJ _ _ _ none h0 (World.grownBy_alloc V (.cells #[.func (.yield l) #[] #[]] 39) none) (fun _ e => by cases e)
  have HH := Lib.hid hj
  clear hb hV hbV hY hJ hJx h0 hj
  refine callsIn_of_wp Try.func29 rfl trivial ?_ rfl
  simp only [Try.ntmps29, List.size_toArray, List.length_cons, List.length_nil, Nat.reduceAdd, Nat.reduceSub, Array.replicate_succ, Array.replicate_zero, List.push_toArray, List.append_toArray, List.nil_append, List.cons_append]
  have hnil : ∀ W, (binOp BinOp.eql 34 Value.nilFunc Value.nilFunc).run Try.prog W = .ok (.bool true) W := fun W => by rfl
  gi_wp2_with (simp only [hnil])
  refine bodyPost_ret (results_none rfl _ _ _) rfl ?_
  exact ⟨⟨_, rfl⟩, .inl HH.out⟩
def WithP (w : World) (e : Ending) (w' : World) : Prop := (∃ F, e = .returned F ∧ Tells w' F []) ∧ Below w.heap.size w w'
theorem without_nil (x : Int) (w : World) : Calls Try.prog 20 #[.nilFunc, .int .i64 x] w (WithP w) := by
  go_enter Try.func20, Try.ntmps20
  go_wp2_with fail
  go_ret
  refine ⟨⟨_, rfl, _, _, fun b => b = w.heap.size, rfl, fun n hn => without_tells_nil n (by omega) w.heap.size (w.heap.size + 1) _ (blk_alloc (heap_alloc_new w _) _), fun b hb => by subst hb; simp; omega, enters_of Try.func29 (by kernel_rfl) rfl⟩, ((Below.refl _ w).alloc (Nat.le_refl _) _).alloc (by simp) _⟩
end Go.Proofs.Yteiiaocohpbanaa
