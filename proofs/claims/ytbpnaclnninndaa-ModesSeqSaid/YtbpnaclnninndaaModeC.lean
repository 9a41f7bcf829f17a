/- Layer 18: the answers' Parse. -/
import Derived.Test.YtbpnaclnninndaaModeB
import Derived.Test.YtbpnaclnninndaaOwn
namespace Go.Proofs.Ytbpnaclnninndaa
set_option linter.unusedVariables false
set_option linter.unusedSimpArgs false
open Go.RowKit

/-- one letter more: the changes, the next argument, how many took one -/
abbrev PSt := List Chg × Nat × Nat
def noArg : ByteArray := ⟨#[]⟩
def stepP (ps : List ByteArray) (st : PSt) (x : Letter) : PSt :=
  if takesB x.1 x.2 = true then
    if st.2.2 = 4 then st
    else if h : st.2.1 < ps.length then (st.1 ++ [(x.2, x.1, ps[st.2.1])], st.2.1 + 1, st.2.2 + 1)
    else if x.1 = 98 then (st.1 ++ [(x.2, x.1, noArg)], st.2.1, st.2.2 + 1)
    else st
  else (st.1 ++ [(x.2, x.1, noArg)], st.2.1, st.2.2)
theorem stepP_no {ps : List ByteArray} {out : List Chg} {a n : Nat} {c : UInt8} {o : Bool} (h : takesB c o = false) : stepP ps (out, a, n) (c, o) = (out ++ [(o, c, noArg)], a, n) := by simp [stepP, h]
theorem stepP_full {ps : List ByteArray} {out : List Chg} {a : Nat} {c : UInt8} {o : Bool} (h : takesB c o = true) : stepP ps (out, a, 4) (c, o) = (out, a, 4) := by simp [stepP, h]
theorem stepP_arg {ps : List ByteArray} {out : List Chg} {a n : Nat} {c : UInt8} {o : Bool} (h : takesB c o = true) (hn : n ≠ 4) (ha : a < ps.length) : stepP ps (out, a, n) (c, o) = (out ++ [(o, c, ps[a])], a + 1, n + 1) := by simp [stepP, h, hn, ha]
theorem stepP_list {ps : List ByteArray} {out : List Chg} {a n : Nat} {o : Bool} (h : takesB 98 o = true) (hn : n ≠ 4) (ha : ¬ a < ps.length) : stepP ps (out, a, n) (98, o) = (out ++ [(o, 98, noArg)], a, n + 1) := by simp [stepP, h, hn, ha]
theorem stepP_drop {ps : List ByteArray} {out : List Chg} {a n : Nat} {c : UInt8} {o : Bool} (h : takesB c o = true) (hn : n ≠ 4) (ha : ¬ a < ps.length) (hc : c ≠ 98) : stepP ps (out, a, n) (c, o) = (out, a, n) := by simp [stepP, h, hn, ha, hc]
def parseM (ps : List ByteArray) : List Chg := if h : 0 < ps.length then ((seqL true ps[0].data.toList).foldl (stepP ps) ([], 1, 0)).1 else []
/-- changes as cells -/
def chL (l : List Chg) : List Value := l.flatMap fun x => [.bool x.1, .int .u8 x.2.1.toNat, .string x.2.2]
theorem chL_snoc (l : List Chg) (x : Chg) : chL (l ++ [x]) = chL l ++ [.bool x.1, .int .u8 x.2.1.toNat, .string x.2.2] := by simp [chL]

theorem Try.infoChg : (Try.prog.info? 29).map (fun i => (i.zero, i.size, i.bytes)) = some (some (.agg #[.bool false, .int .u8 0, .string ⟨#[]⟩]), 3, 24) := by kernel_rfl

theorem wpList_app_oneN {P : Program} {W w0 : World} {ops : Array Oper} {rest : List Oper} {o : Oper} {a : Act} {Q : Exit → Act → World → Prop} (hgd : o.guard = none) (s x : Operand) (t : TypeId)
    (ho : o.op = .call { callee := .builtin .append, args := #[s, x], argTypes := #[t, t] })
    (base : Nat) (e : TypeId) (i : TypeInfo) (z : Value) (size bytes : Nat) (ht : P.underlying t = some (.slice e)) (hi : P.info? e = some i) (hz : i.zero = some z)
    (hsize : i.size = size) (hby : i.bytes = bytes) (hzs : z.cells.size = size) (hsz : 0 < size)
    (v : Value) (n : Nat) (xs : List Value) (hs : a.eval s = v) (hown : W.ownsRow base e size v n xs)
    (cs : Array Value) (N : Nat) (hx : a.eval x = .slice (some ⟨N, 0, none⟩) 1 1) (hN : W.heap.size = N) (hl : cs.size = size) (h1 : ∀ u ∈ cs.toList, u.oneCell' = true)
    (hn : n ≤ 1000000000) (hbs : bytes ≤ 1000) (hB : Below base w0 W) (hbase : base ≤ W.heap.size)
    (h : ∀ v' w', w'.ownsRow base e size v' (n + 1) (xs ++ cs.toList) → Below base w0 w' → base ≤ w'.heap.size → wpList P ops Q rest (a.put o.dst v') w') : wpList P ops Q (o :: rest) a (W.alloc (.cells cs e)) := by
  subst hN
  exact wpList_app_one hgd s x t ho base e i z size bytes ht hi hz hsize hby hzs hsz v n xs hs hown cs hx hl h1 hn hbs hB hbase h

set_option maxRecDepth 100000 in
set_option maxHeartbeats 4000000 in
theorem parse_r (pg po cap : Nat) (ps : List ByteArray) (w : World) (hl : ps.length ≤ 100000) (h0 : ∀ h : 0 < ps.length, ps[0].size ≤ 1000000) (hpg : pg < w.heap.size)
    (hp : ∀ j (h : j < ps.length), w.cell? ⟨pg, po + j, none⟩ = some (.string ps[j])) :
    Calls Try.prog 12 #[.slice (some ⟨pg, po, none⟩) ps.length cap] w fun e w' => ∃ v, e = .returned v ∧ w'.ownsRow w.heap.size 29 3 v (parseM ps).length (chL (parseM ps)) ∧ Below w.heap.size w w' ∧ w.heap.size ≤ w'.heap.size := by
  obtain ⟨i0, hi, hz0, hz1, hz2⟩ := info_parts Try.infoChg
  unfold parseM
  by_cases hne : 0 < ps.length
  · have hp0 := h0 hne
    rw [dif_pos hne]
    obtain ⟨F, hF⟩ : ∃ F, (seqL true ps[0].data.toList).foldl (stepP ps) ([], 1, 0) = F := ⟨_, rfl⟩
    rw [hF]
    have HP := Lib.hid hp
    have HF := Lib.hid hF
    have hne1 : ((ps.length : Int) == 0) = false := by rw [beq_eq_false_iff_ne]; omega
    clear hF hp h0
    go_enter Try.func12, Try.ntmps12
    go_wp2_with fail
    go_loopw [3, 4, 5, 6, 7] (fun v on ar tk i wr => ∃ (k : Nat) (o : Bool) (out : List Chg) (a n : Nat), i = .int .i64 k ∧ k ≤ ps[0].size ∧ on = .bool o ∧ ar = .int .i64 a ∧ tk = .int .i64 n ∧ a ≤ k + 1 ∧ n ≤ k ∧ out.length ≤ k ∧ Hid ((seqL o (ps[0].data.toList.drop k)).foldl (stepP ps) (out, a, n) = F) ∧ wr.ownsRow w.heap.size 29 3 v out.length (chL out) ∧ Below w.heap.size w wr ∧ w.heap.size ≤ wr.heap.size) (fun _ _ _ _ i _ => ps[0].size - (intOf i).toNat)
    case atStart => exact ⟨0, true, [], 1, 0, rfl, Nat.zero_le _, rfl, rfl, rfl, by omega, by omega, by simp, by simpa using HF, World.ownsRow_nil _ _ _ _, Below.refl _ _, Nat.le_refl _⟩
    case round =>
      obtain ⟨k, o, out, a, n, rfl, hk, rfl, rfl, rfl, ha, hn, hol, HR, hown, hB, hb⟩ := hrel
      have hc0 : wr.cell? ⟨pg, po, none⟩ = some (.string ps[0]) := by
        rw [hB.cell (p := ⟨pg, po, none⟩) hpg]; exact HP.out 0 hne
      by_cases hlt : k < ps[0].size
      · have HSQ := Lib.hid (seqL_at o ps[0] k hlt)
        by_cases h1 : ps[0][k] = 43
        · have c1 : ((ps[0][k].toNat : Int) == 43) = true := by rw [h1]; rfl
          have H1 := Lib.hid h1
          clear h1
          go_wp2_with fail
          go_roundw
          case rel => exact ⟨k + 1, true, out, a, n, by go_num, by omega, rfl, rfl, rfl, by omega, by omega, by omega, by have := HR.out; rw [HSQ.out, if_pos H1.out] at this; exact this, hown, hB, hb⟩
          case measure => simp [intOf]; omega
        · have c1 : ((ps[0][k].toNat : Int) == 43) = false := by
            rw [beq_eq_false_iff_ne]; intro e; exact h1 (UInt8.toNat_inj.mp (by have : (43 : UInt8).toNat = 43 := rfl; omega))
          by_cases h2 : ps[0][k] = 45
          · have c2 : ((ps[0][k].toNat : Int) == 45) = true := by rw [h2]; rfl
            have H2 := Lib.hid h2
            clear h2
            go_wp2_with fail
            go_roundw
            case rel => exact ⟨k + 1, false, out, a, n, by go_num, by omega, rfl, rfl, rfl, by omega, by omega, by omega, by have := HR.out; rw [HSQ.out, if_neg h1, if_pos H2.out] at this; exact this, hown, hB, hb⟩
            case measure => simp [intOf]; omega
          · have c2 : ((ps[0][k].toNat : Int) == 45) = false := by
              rw [beq_eq_false_iff_ne]; intro e; exact h2 (UInt8.toNat_inj.mp (by have : (45 : UInt8).toNat = 45 := rfl; omega))
            have hnx : (seqL o (ps[0].data.toList.drop (k + 1))).foldl (stepP ps) (stepP ps (out, a, n) (ps[0][k], o)) = F := by
              have := HR.out
              rw [HSQ.out, if_neg h1, if_neg h2] at this
              exact this
            have HN := Lib.hid hnx
            clear hnx
            have ht : ∀ W, Calls Try.prog 13 #[.int .u8 ↑(ps[0][k]).toNat, .bool o] W fun e w' => e = .returned (.bool (takesB ps[0][k] o)) ∧ W = w' := fun W => takes_r _ _ W
            cases htk : takesB ps[0][k] o
            · rw [htk] at ht
              have HT := Lib.hid htk
              clear htk
              go_wp2_with (first | (go_at_call 13; refine (ht _).mono ?_; rintro e w' ⟨rfl, rfl⟩) | (at_builtin; refine wpList_app_oneN rfl _ _ 25 rfl w.heap.size 29 i0 _ 3 24 Try.underlying25 hi hz0 hz1 hz2 rfl (by decide) _ _ _ rfl (hown.alloc _) #[.bool o, .int .u8 ps[0][k].toNat, .string noArg] _ rfl (by simp) rfl (by intro u hu; simp at hu; rcases hu with rfl | rfl | rfl <;> rfl) (by omega) (by decide) (hB.alloc hb _) (by simp; omega) ?_; intro v1 w1 hown1 hB1 hb1))
              go_roundw
              case rel => exact ⟨k + 1, o, out ++ [(o, ps[0][k], noArg)], a, n, by go_num, by omega, rfl, rfl, rfl, by omega, by omega, by simp; omega, by have := HN.out; rw [stepP_no HT.out] at this; exact this, by rw [chL_snoc]; simpa using hown1, hB1, hb1⟩
              case measure => simp [intOf]; omega
            · rw [htk] at ht
              have HT := Lib.hid htk
              clear htk
              by_cases hn4 : n = 4
              · subst hn4
                go_wp2_with (first | (go_at_call 13; refine (ht _).mono ?_; rintro e w' ⟨rfl, rfl⟩))
                go_roundw
                case rel => exact ⟨k + 1, o, out, a, 4, by go_num, by omega, rfl, rfl, rfl, by omega, by omega, by omega, by have := HN.out; rw [stepP_full HT.out] at this; exact this, hown.alloc _, hB.alloc hb _, by simp; omega⟩
                case measure => simp [intOf]; omega
              · have q1 : ((n : Int) == 4) = false := by rw [beq_eq_false_iff_ne]; omega
                by_cases hal : a < ps.length
                · have q2 : ¬ ((ps.length : Int) ≤ (a : Int)) := by omega
                  have q2' : ((a : Int) < (ps.length : Int)) := by omega
                  have hca : wr.cell? ⟨pg, po + a, none⟩ = some (.string ps[a]) := by
                    rw [hB.cell (p := ⟨pg, po + a, none⟩) hpg]; exact HP.out a hal
                  have hpw : pg < wr.heap.size := by omega
                  go_wp2_with (first | (go_at_call 13; refine (ht _).mono ?_; rintro e w' ⟨rfl, rfl⟩) | (at_builtin; refine wpList_app_oneN rfl _ _ 25 rfl w.heap.size 29 i0 _ 3 24 Try.underlying25 hi hz0 hz1 hz2 rfl (by decide) _ _ _ rfl (hown.alloc _) #[.bool o, .int .u8 ps[0][k].toNat, .string ps[a]] _ rfl (by simp) rfl (by intro u hu; simp at hu; rcases hu with rfl | rfl | rfl <;> rfl) (by omega) (by decide) (hB.alloc hb _) (by simp; omega) ?_; intro v1 w1 hown1 hB1 hb1))
                  go_roundw
                  case rel => exact ⟨k + 1, o, out ++ [(o, ps[0][k], ps[a])], a + 1, n + 1, by go_num, by omega, rfl, by go_num, by go_num, by omega, by omega, by simp; omega, by have := HN.out; rw [stepP_arg HT.out hn4 hal] at this; exact this, by rw [chL_snoc]; simpa using hown1, hB1, hb1⟩
                  case measure => simp [intOf]; omega
                · have q2 : (ps.length : Int) ≤ (a : Int) := by omega
                  have q2' : ¬ ((a : Int) < (ps.length : Int)) := by omega
                  by_cases h98 : ps[0][k] = 98
                  · have q3 : ((ps[0][k].toNat : Int) != 98) = false := by rw [h98]; rfl
                    have H98 := Lib.hid h98
                    clear h98
                    go_wp2_with (first | (go_at_call 13; refine (ht _).mono ?_; rintro e w' ⟨rfl, rfl⟩) | (at_builtin; refine wpList_app_oneN rfl _ _ 25 rfl w.heap.size 29 i0 _ 3 24 Try.underlying25 hi hz0 hz1 hz2 rfl (by decide) _ _ _ rfl (hown.alloc _) #[.bool o, .int .u8 ps[0][k].toNat, .string noArg] _ rfl (by simp) rfl (by intro u hu; simp at hu; rcases hu with rfl | rfl | rfl <;> rfl) (by omega) (by decide) (hB.alloc hb _) (by simp; omega) ?_; intro v1 w1 hown1 hB1 hb1))
                    go_roundw
                    case rel => exact ⟨k + 1, o, out ++ [(o, ps[0][k], noArg)], a, n + 1, by go_num, by omega, rfl, rfl, by go_num, by omega, by omega, by simp; omega, by have := HN.out; have h8 := H98.out; have ht8 := HT.out; rw [h8] at this ht8 ⊢; rw [stepP_list ht8 hn4 hal] at this; exact this, by rw [chL_snoc]; simpa using hown1, hB1, hb1⟩
                    case measure => simp [intOf]; omega
                  · have q3 : ((ps[0][k].toNat : Int) != 98) = true := by
                      rw [bne_iff_ne]; intro e; exact h98 (UInt8.toNat_inj.mp (by have : (98 : UInt8).toNat = 98 := rfl; omega))
                    go_wp2_with (first | (go_at_call 13; refine (ht _).mono ?_; rintro e w' ⟨rfl, rfl⟩))
                    go_roundw
                    case rel => exact ⟨k + 1, o, out, a, n, by go_num, by omega, rfl, rfl, rfl, by omega, by omega, by omega, by have := HN.out; rw [stepP_drop HT.out hn4 hal h98] at this; exact this, hown.alloc _, hB.alloc hb _, by simp; omega⟩
                    case measure => simp [intOf]; omega
      · obtain rfl : k = ps[0].size := by omega
        have hfin : (out, a, n) = F := by
          have := HR.out
          rw [List.drop_of_length_le (by simp)] at this
          simpa [seqL] using this
        subst hfin
        go_wp2_with fail
        go_ret
        exact ⟨_, rfl, hown, hB, hb⟩
  · have hn0 : ps.length = 0 := by omega
    rw [dif_neg hne]
    rw [hn0]
    go_enter Try.func12, Try.ntmps12
    go_wp2_with fail
    go_ret
    exact ⟨_, rfl, World.ownsRow_nil _ _ _ _, Below.refl _ _, Nat.le_refl _⟩
end Go.Proofs.Ytbpnaclnninndaa
