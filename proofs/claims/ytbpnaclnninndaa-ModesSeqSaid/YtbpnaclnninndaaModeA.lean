/- Layer 18: modes.Seq, the letters of a row, as a function that ranges; Takes on both sides. -/
import Derived.Test.YtbpnaclnninndaaChecked
import Derived.Test.YtbpnaclnninndaaScope
import Derived.RangeFuncKeeps
import Derived.Outline
namespace Go.Proofs.Ytbpnaclnninndaa
set_option linter.unusedVariables false
set_option linter.unusedSimpArgs false
open Go.RowKit Go.Shelf
attribute [local go_sem] Oper.semAt_some

/-- a letter, and whether it is on -/
abbrev Letter := UInt8 × Bool
abbrev encLet (x : Letter) : Array Value := #[.int .u8 x.1.toNat, .bool x.2]
/-- the letters of a row, from a sign on -/
def seqL (on : Bool) : List UInt8 → List Letter
  | [] => []
  | c :: r => if c = 43 then seqL true r else if c = 45 then seqL false r else (c, on) :: seqL on r
theorem seqL_len (on : Bool) (l : List UInt8) : (seqL on l).length ≤ l.length := by
  induction l generalizing on with
  | nil => simp [seqL]
  | cons c r ih =>
    unfold seqL
    split
    · have := ih true; simp; omega
    · split
      · have := ih false; simp; omega
      · have := ih on; simp; omega
theorem seqL_at (on : Bool) (s : ByteArray) (k : Nat) (h : k < s.size) : seqL on (s.data.toList.drop k) = if s[k] = 43 then seqL true (s.data.toList.drop (k + 1)) else if s[k] = 45 then seqL false (s.data.toList.drop (k + 1)) else (s[k], on) :: seqL on (s.data.toList.drop (k + 1)) := by
  rw [List.drop_eq_getElem_cons (by simpa using h)]
  rfl

theorem takes_v (c : UInt8) (on : Bool) (w : World) :
    Calls Try.prog 10 #[.int .u8 ↑c.toNat, .bool on] w fun e w' => e = .returned (.bool (c == 111 || c == 118 || c == 98 || c == 107 || (c == 108 && on))) ∧ w = w' := by
  have e : ∀ n : UInt8, ((c.toNat : Int) == (n.toNat : Int)) = (c == n) := fun n => by
    rw [Bool.eq_iff_iff, beq_iff_eq, beq_iff_eq]
    constructor
    · intro h; exact UInt8.toNat_inj.mp (by omega)
    · intro h; rw [h]
  have e1 := e 111; have e2 := e 118; have e3 := e 98; have e4 := e 107; have e5 := e 108
  clear e
  cases h1 : (c == 111) <;> cases h2 : (c == 118) <;> cases h3 : (c == 98) <;> cases h4 : (c == 107) <;> cases h5 : (c == 108) <;> rw [h1] at e1 <;> rw [h2] at e2 <;> rw [h3] at e3 <;> rw [h4] at e4 <;> rw [h5] at e5
  all_goals
    clear h1 h2 h3 h4 h5
    have f1 : ((c.toNat : Int) == 111) = _ := e1
    have f2 : ((c.toNat : Int) == 118) = _ := e2
    have f3 : ((c.toNat : Int) == 98) = _ := e3
    have f4 : ((c.toNat : Int) == 107) = _ := e4
    have f5 : ((c.toNat : Int) == 108) = _ := e5
    clear e1 e2 e3 e4 e5
    go_enter Try.func10, Try.ntmps10
    go_wp2_with fail
    go_ret
    exact ⟨ret_bool (by simp), rfl⟩

theorem seq_any (s : ByteArray) (w : World) :
    Calls Try.prog 18 #[.string s] w fun e w' => e = .returned (.func (.func 20) #[] #[.pointer (some ⟨w.heap.size, 0, none⟩)]) ∧ w' = w.alloc (.cells #[.string s] 9) := by
  go_enter Try.func18, Try.ntmps18
  go_wp2
  go_ret
  exact ⟨rfl, rfl⟩

/-- block B lies as it lay -/
def KeptAt (B : Nat) (W1 W' : World) : Prop := W'.heap[B]? = W1.heap[B]?
theorem KeptAt.cell {B : Nat} {W1 W' : World} (h : KeptAt B W1 W') : W'.cell? ⟨B, 0, none⟩ = W1.cell? ⟨B, 0, none⟩ := World.cell?_of_block (w := W1) h

set_option maxRecDepth 100000 in
set_option maxHeartbeats 4000000 in
theorem seq_stops (n : Nat) (hn : 2 ≤ n) (B : Nat) (s : ByteArray) (w : World) (hs : s.size ≤ 1000000) (hB : B < w.heap.size) (hc : w.cell? ⟨B, 0, none⟩ = some (.string s)) :
    SeqStopsK Fence.wide n Try.prog 20 #[.pointer (some ⟨B, 0, none⟩)] encLet (KeptAt B)
      (fun xs => xs = seqL true s.data.toList) (fun pre => ∃ r, pre ++ r = seqL true s.data.toList) s.size w := fun l J Jx W hW hJ hJx hY h0 => by
  have hc1 : W.cell? ⟨B, 0, none⟩ = some (.string s) := (hW.cell (p := ⟨B, 0, none⟩) hB).trans hc
  refine callsIn_of_wp Try.func20 rfl trivial ?_ rfl
  simp only [Try.ntmps20, List.size_toArray, List.length_cons, List.length_nil, Nat.reduceAdd, Nat.reduceSub, Array.replicate_succ, Array.replicate_zero, List.push_toArray, List.append_toArray, List.nil_append, List.cons_append]
  gi_wp2
  refine wpIn_scope ?_
  gi_wp2
  refine wpIn_label ?_
  gi_wp2
  gi_loopw [3, 4, 7] (fun o _ i wr => ∃ (k : Nat) (on : Bool) (pre : List Letter), i = .int .i64 k ∧ o = .bool on ∧ k ≤ s.size ∧ Hid (pre ++ seqL on (s.data.toList.drop k) = seqL true s.data.toList ∧ wr.cell? ⟨B, 0, none⟩ = some (.string s)) ∧ J pre wr) (fun _ _ i _ => s.size - (intOf i).toNat)
  case atStart => exact ⟨0, true, [], rfl, rfl, Nat.zero_le _, ⟨by simp, hc1⟩, h0⟩
  case round =>
    obtain ⟨k, on, pre, rfl, rfl, hk, HR, hJs⟩ := hrel
    have hcc := HR.out.2
    by_cases hlt : k < s.size
    · have hsq := seqL_at on s k hlt
      have HSQ := Lib.hid hsq
      clear hsq
      by_cases h1 : s[k] = 43
      · have c1 : ((s[k].toNat : Int) == 43) = true := by rw [h1]; rfl
        have H1 := Lib.hid h1
        clear h1
        gi_wp2_with fail
        go_roundw
        case rel => exact ⟨k + 1, true, pre, by go_num, rfl, by omega, ⟨by have := HR.out.1; rw [HSQ.out, if_pos H1.out] at this; exact this, hcc⟩, hJs⟩
        case measure => simp [intOf]; omega
      · have c1 : ((s[k].toNat : Int) == 43) = false := by
          rw [beq_eq_false_iff_ne]; intro e; exact h1 (UInt8.toNat_inj.mp (by have : (43 : UInt8).toNat = 43 := rfl; omega))
        by_cases h2 : s[k] = 45
        · have c2 : ((s[k].toNat : Int) == 45) = true := by rw [h2]; rfl
          have H2 := Lib.hid h2
          clear h2
          gi_wp2_with fail
          go_roundw
          case rel => exact ⟨k + 1, false, pre, by go_num, rfl, by omega, ⟨by have := HR.out.1; rw [HSQ.out, if_neg h1, if_pos H2.out] at this; exact this, hcc⟩, hJs⟩
          case measure => simp [intOf]; omega
        · have c2 : ((s[k].toNat : Int) == 45) = false := by
            rw [beq_eq_false_iff_ne]; intro e; exact h2 (UInt8.toNat_inj.mp (by have : (45 : UInt8).toNat = 45 := rfl; omega))
          have hnx : (pre ++ [(s[k], on)]) ++ seqL on (s.data.toList.drop (k + 1)) = seqL true s.data.toList := by
            have := HR.out.1; rw [HSQ.out, if_neg h1, if_neg h2] at this; rw [← this]; simp
          have hlen : pre.length < s.size := by
            have h3 := congrArg List.length hnx
            have h4 := seqL_len true s.data.toList
            have h5 : s.data.toList.length = s.size := by simp
            simp only [List.length_append, List.length_cons, List.length_nil] at h3
            omega
          have HN := Lib.hid hnx
          clear hnx
          obtain ⟨fn, tmps, assign, body, hy, hR⟩ := hY pre (s[k], on) wr hJs hlen
          dsimp only [encLet] at hy
          gi_wp2_with fail
          refine ⟨fun _ => by omega, hR.mono ?_⟩
          rintro e W3 (⟨rfl, hJ3, hK3⟩ | ⟨rfl, hJx3⟩)
          · have hc3 := hK3.cell.trans hcc
            have HC3 := Lib.hid hc3
            clear hc3
            gi_wp2_with fail
            go_roundw
            case rel => exact ⟨k + 1, on, _, by go_num, rfl, by omega, ⟨HN.out, HC3.out⟩, hJ3⟩
            case measure => simp [intOf]; omega
          · gi_wp2_with fail
            rw [noGoto_ret']
            refine bodyPost_ret (results_none rfl _ _ _) rfl ?_
            exact ⟨⟨_, rfl⟩, .inr ⟨_, ⟨_, HN.out⟩, hJx3⟩⟩
    · obtain rfl : k = s.size := by omega
      have hfin : pre = seqL true s.data.toList := by
        have := HR.out.1
        rw [List.drop_of_length_le (by simp)] at this
        simpa [seqL] using this
      have HF := Lib.hid hfin
      clear hfin
      gi_wp2_with fail
      rw [noGoto_normal]
      go_end0
      exact ⟨⟨_, rfl⟩, .inl ⟨_, HF.out, hJs⟩⟩
end Go.Proofs.Ytbpnaclnninndaa
