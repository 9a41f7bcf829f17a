/- Layer 18: modes.Text. -/
import Derived.Test.YtbpnaclnninndaaModeE
import Derived.Laws.AppendOwnNone
import Derived.IntWalk
namespace Go.Proofs.Ytbpnaclnninndaa
set_option linter.unusedVariables false
set_option linter.unusedSimpArgs false
open Go.RowKit Go.Shelf

theorem Try.infoByte : (Try.prog.info? 5).map (fun i => (i.zero, i.size, i.bytes)) = some (some (.int .u8 0), 1, 1) := by kernel_rfl
theorem Try.infoStr : (Try.prog.info? 9).map (fun i => (i.zero, i.size, i.bytes)) = some (some (.string ⟨#[]⟩), 1, 16) := by kernel_rfl

/-- two rows of different sorts lie apart -/
theorem rows_ne {W : World} {base base' size size' n n' : Nat} {e e' : TypeId} {v v' : Value} {xs xs' : List Value} (h : W.ownsRow base e size v n xs) (h' : W.ownsRow base' e' size' v' n' xs') (hne : e ≠ e') : v.ownBlock = none ∨ v.ownBlock ≠ v'.ownBlock := by
  rcases h.2 with ⟨rfl, _⟩ | ⟨g, cap, cur, rfl, _, hg, _⟩
  · exact .inl rfl
  · right
    rcases h'.2 with ⟨rfl, _⟩ | ⟨g', cap', cur', rfl, _, hg', _⟩
    · simp [Value.ownBlock]
    · intro he
      have : g = g' := by simpa [Value.ownBlock] using he
      subst this
      rw [hg] at hg'
      simp at hg'
      exact hne hg'.2
/-- the change that is gone through lies in a block of its own -/
def CB (W : World) (N : Nat) (x : Chg) : Prop := W.heap[N]? = some (.cells #[.bool x.1, .int .u8 x.2.1.toNat, .string x.2.2] 29 (0, 0))
theorem CB.cells {W : World} {N : Nat} {on : Bool} {c : UInt8} {a : ByteArray} (h : CB W N (on, c, a)) : W.cell? ⟨N, 0, none⟩ = some (.bool on) ∧ W.cell? ⟨N, 1, none⟩ = some (.int .u8 c.toNat) ∧ W.cell? ⟨N, 2, none⟩ = some (.string a) :=
  ⟨cell_of_row W N 0 _ _ _ h, cell_of_row W N 1 _ _ _ h, cell_of_row W N 2 _ _ _ h⟩
theorem CB.lt {W : World} {N : Nat} {x : Chg} (h : CB W N x) : N < W.heap.size := (Array.getElem?_eq_some_iff.1 h).1
theorem CB.grown {W W' : World} {N base n : Nat} {x : Chg} {v : Value} {xs : List Value} {e : TypeId} {size : Nat} (h : CB W N x) (hown : W.ownsRow base e size v n xs) (hne : e ≠ 29) (hg : W.grownBy W' v.ownBlock) : CB W' N x := by
  have hlt := h.lt
  unfold CB at h ⊢
  rw [hg.block N hlt ?_]
  · exact h
  · intro he
    rcases hown.2 with ⟨rfl, _⟩ | ⟨g, cap, cur, rfl, _, hgb, _⟩
    · simp [Value.ownBlock] at he
    · have : N = g := by simpa [Value.ownBlock] using he
      subst this
      rw [h] at hgb
      simp at hgb
      exact hne hgb.2.symm
theorem CB.alloc {W : World} {N : Nat} {x : Chg} (h : CB W N x) (o : Obj) : CB (W.alloc o) N x := (Below.heap_alloc W o N h.lt).trans h

/-- the row and the arguments that were made so far -/
def StT (w W : World) (R : List UInt8) (T : List ByteArray) (r ar : Value) : Prop :=
  W.ownsRow w.heap.size 5 1 r R.length (R.map fun b => .int .u8 b.toNat) ∧ W.ownsRow w.heap.size 9 1 ar T.length (T.map .string) ∧ Below w.heap.size w W ∧ w.heap.size ≤ W.heap.size
theorem StT.alloc {w W : World} {R : List UInt8} {T : List ByteArray} {r ar : Value} (h : StT w W R T r ar) (o : Obj) : StT w (W.alloc o) R T r ar := ⟨h.1.alloc o, h.2.1.alloc o, h.2.2.1.alloc h.2.2.2 o, by rw [World.size_alloc]; have := h.2.2.2; omega⟩
theorem StT.drewN {w W : World} {R : List UInt8} {T : List ByteArray} {r ar : Value} (h : StT w W R T r ar) (n : Nat) : StT w (W.drewN n) R T r ar := ⟨h.1, h.2.1, below_dn' h.2.2.1 n, h.2.2.2⟩

theorem wpList_row {W w : World} {ops : Array Oper} {rest : List Oper} {o : Oper} {a : Act} {Q : Exit → Act → World → Prop} (hgd : o.guard = none) (s x : Operand)
    (ho : o.op = .call { callee := .builtin .append, args := #[s, x], argTypes := #[39, 39] })
    (R : List UInt8) (T : List ByteArray) (r ar : Value) (hS : StT w W R T r ar) (hs : a.eval s = r) (N M : Nat) (y : Chg) (hC : CB W N y) (hM : W.heap.size = M) (hx : a.eval x = .slice (some ⟨M, 0, none⟩) 1 1) (b : UInt8) (hR : R.length ≤ 1000000)
    (h : ∀ r' W', StT w W' (R ++ [b]) T r' ar → CB W' N y → wpList Try.prog ops Q rest (a.put o.dst r') W') : wpList Try.prog ops Q (o :: rest) a (W.alloc (.cells #[.int .u8 b.toNat] 5)) := by
  subst hM
  obtain ⟨i0, hi, hz0, hz1, hz2⟩ := info_parts Try.infoByte
  refine wpList_append_own _ hgd s x 39 ho w.heap.size 5 i0 _ 1 1 Try.underlying39 hi hz0 hz1 hz2 rfl (by decide) r R.length _ hs (hS.1.alloc _) ⟨W.heap.size, 0, none⟩ 1 1 [.int .u8 b.toNat] hx (by simp) (cells_new W _ _) (by intro u hu; simp at hu; subst hu; rfl)
    (by unfold maxLen; omega) (by omega) (by rw [World.size_alloc]; have := hS.2.2.2; omega) ?_
  intro r' W' hown hg _
  have h0 := hS.alloc (.cells #[.int .u8 b.toNat] 5)
  refine h r' W' ⟨by simpa using hown, h0.2.1.kept hg (rows_ne h0.2.1 h0.1 (by decide)), h0.2.2.1.grown hg h0.2.2.2 (fun k hk => (h0.1.lt k hk).1), Nat.le_trans h0.2.2.2 hg.size⟩ ((hC.alloc _).grown h0.1 (by decide) hg)
theorem wpList_arg {W w : World} {ops : Array Oper} {rest : List Oper} {o : Oper} {a : Act} {Q : Exit → Act → World → Prop} (hgd : o.guard = none) (s x : Operand)
    (ho : o.op = .call { callee := .builtin .append, args := #[s, x], argTypes := #[22, 22] })
    (R : List UInt8) (T : List ByteArray) (r ar : Value) (hS : StT w W R T r ar) (hs : a.eval s = ar) (M : Nat) (hM : W.heap.size = M) (hx : a.eval x = .slice (some ⟨M, 0, none⟩) 1 1) (b : ByteArray) (hT : T.length ≤ 1000000)
    (h : ∀ ar' W', StT w W' R (T ++ [b]) r ar' → wpList Try.prog ops Q rest (a.put o.dst ar') W') : wpList Try.prog ops Q (o :: rest) a (W.alloc (.cells #[.string b] 9)) := by
  subst hM
  obtain ⟨i0, hi, hz0, hz1, hz2⟩ := info_parts Try.infoStr
  refine wpList_append_own _ hgd s x 22 ho w.heap.size 9 i0 _ 1 16 Try.underlying22 hi hz0 hz1 hz2 rfl (by decide) ar T.length _ hs (hS.2.1.alloc _) ⟨W.heap.size, 0, none⟩ 1 1 [.string b] hx (by simp) (cells_new W _ _) (by intro u hu; simp at hu; subst hu; rfl)
    (by unfold maxLen; omega) (by omega) (by rw [World.size_alloc]; have := hS.2.2.2; omega) ?_
  intro r' W' hown hg _
  have h0 := hS.alloc (.cells #[.string b] 9)
  exact h r' W' ⟨h0.1.kept hg (rows_ne h0.1 h0.2.1 (by decide)), by simpa using hown, h0.2.2.1.grown hg h0.2.2.2 (fun k hk => (h0.2.1.lt k hk).1), Nat.le_trans h0.2.2.2 hg.size⟩
/-- 'append([]string{row}, args...)' -/
theorem wpList_all {W w : World} {ops : Array Oper} {rest : List Oper} {o : Oper} {a : Act} {Q : Exit → Act → World → Prop} (hgd : o.guard = none) (s x : Operand)
    (ho : o.op = .call { callee := .builtin .append, args := #[s, x], argTypes := #[22, 22] })
    (R : List UInt8) (T : List ByteArray) (r ar : Value) (hS : StT w W R T r ar) (M : Nat) (hM : W.heap.size = M) (hs : a.eval s = .slice (some ⟨M, 0, none⟩) 1 1) (hx : a.eval x = ar) (b : ByteArray) (hT : T.length ≤ 1000000)
    (h : ∀ v W', W'.ownsRow w.heap.size 9 1 v (b :: T).length ((b :: T).map .string) → Below w.heap.size w W' → wpList Try.prog ops Q rest (a.put o.dst v) W') : wpList Try.prog ops Q (o :: rest) a (W.alloc (.cells #[.string b] 9)) := by
  subst hM
  obtain ⟨i0, hi, hz0, hz1, hz2⟩ := info_parts Try.infoStr
  have h0 := hS.alloc (.cells #[.string b] 9)
  have hlit : (W.alloc (.cells #[.string b] 9)).ownsRow w.heap.size 9 1 (.slice (some ⟨W.heap.size, 0, none⟩) 1 1) 1 [.string b] := World.ownsRow_lit W #[.string b] 1 hS.2.2.2 (by decide) (by simp)
  have har := hS.2.1
  rcases har.2 with ⟨rfl, hn⟩ | ⟨g, cap, cur, rfl, _, hgb, hc, _⟩
  · have ht : T = [] := List.eq_nil_of_length_eq_zero hn
    subst ht
    refine wpList_append_own_none hgd s x 22 ho w.heap.size 9 i0 1 Try.underlying22 hi _ 1 _ hs hlit hx ?_
    exact h _ _ hlit h0.2.2.1
  · refine wpList_append_own _ hgd s x 22 ho w.heap.size 9 i0 _ 1 16 Try.underlying22 hi hz0 hz1 hz2 rfl (by decide) _ 1 _ hs hlit ⟨g, 0, none⟩ T.length cap (T.map .string) hx (by simp) (h0.2.1.cells (g := g) rfl) (by intro u hu; simp at hu; obtain ⟨z, _, rfl⟩ := hu; rfl)
      (by unfold maxLen; omega) (by omega) (by rw [World.size_alloc]; have := hS.2.2.2; omega) ?_
    intro v W' hown hg _
    refine h v W' ?_ (h0.2.2.1.grown hg h0.2.2.2 (fun k hk => ?_))
    · have e : (b :: T).length = 1 + T.length := by simp; omega
      rw [e]; simpa using hown
    · have : W.heap.size = k := by simpa [Value.ownBlock] using hk
      have := hS.2.2.2
      omega

def TextTo (w : World) (l : List Chg) (e : Ending) (w' : World) : Prop := ∃ A c, e = .returned (.slice A (textM l).length c) ∧ (textM l).length ≤ c ∧ RowT w' A (textM l) ∧ Below w.heap.size w w'
theorem sign_v (on : Bool) (w : World) :
    Calls Try.prog 19 #[.bool on] w fun e w' => e = .returned (.int .u8 (sgn on).toNat) ∧ w = w' := by
  cases on
  all_goals
    go_enter Try.func19, Try.ntmps19
    go_wp2_with fail
    go_ret
    exact ⟨rfl, rfl⟩
theorem text_zero (A : Option Addr) (c : Nat) (w : World) :
    Calls Try.prog 16 #[.slice A 0 c] w (TextTo w []) := by
  have h : Calls Try.prog 16 #[.slice A 0 c] w fun e w' => e = .returned (.slice none 0 0) ∧ w = w' := by
    go_enter Try.func16, Try.ntmps16
    go_wp2_with fail
    go_ret
    exact ⟨rfl, rfl⟩
  exact h.mono fun e w' ⟨he, hw⟩ => ⟨none, 0, he, Nat.le_refl _, fun h => absurd h (by decide), by rw [← hw]; exact Below.refl _ _⟩

/-- how a round ends: one change more -/
def Done1 (w : World) (l : List Chg) (k : Nat) (r ar : Value) (W : World) : Prop := StT w W (textS (l.take k)).1 (textS (l.take k)).2.1 r ar

theorem done_mk {w W : World} {l : List Chg} {k : Nat} {r ar : Value} {R : List UInt8} {T T' : List ByteArray} {p : Option Bool} {on : Bool} {ch : UInt8} {ag : ByteArray} {sg : List UInt8} (hst : textS (l.take (k + 1)) = stepT (R, T, p) (on, ch, ag))
    (e1 : (if p = some on then [] else [sgn on]) = sg) (e2 : (if takesB ch on = true then T ++ [ag] else T) = T') (h : StT w W (R ++ sg ++ [ch]) T' r ar) : Done1 w l (k + 1) r ar W := by
  unfold Done1
  rw [hst]
  show StT w W (R ++ (if p = some on then [] else [sgn on]) ++ [ch]) (if takesB ch on = true then T ++ [ag] else T) r ar
  rw [e1, e2]
  exact h

set_option maxRecDepth 100000 in
set_option maxHeartbeats 4000000 in
theorem text_v (A : Option Addr) (l : List Chg) (c : Nat) (w : World) (hl : l.length ≤ 100000) (hr : RowC w A l) :
    Calls Try.prog 16 #[.slice A l.length c] w (TextTo w l) := by
  by_cases hne : 0 < l.length
  · obtain ⟨g, o, rfl, hcell⟩ := hr hne
    have HC := Lib.hid hcell
    have hg := lt_of_cell (hcell 0 hne).1
    have hz : ((l.length : Int) == 0) = false := by rw [beq_eq_false_iff_ne]; omega
    clear hcell hr
    go_enter Try.func16, Try.ntmps16
    go_wp2_with fail
    go_loopw [3, 4, 12] (fun r ar i wr => ∃ k : Nat, i = .int .i64 k ∧ k ≤ l.length ∧ Done1 w l k r ar wr) (fun _ _ i _ => l.length - (intOf i).toNat)
    case atStart => exact ⟨0, rfl, Nat.zero_le _, World.ownsRow_nil _ _ _ _, World.ownsRow_nil _ _ _ _, Below.refl _ _, Nat.le_refl _⟩
    case round =>
      obtain ⟨k, rfl, hk, HD⟩ := hrel
      unfold Done1 at HD
      by_cases hlt : k < l.length
      · have hstep := textS_take l k hlt
        have hlen := textS_len (l.take k)
        have hlk : (l.take k).length ≤ 100000 := by rw [List.length_take]; omega
        have hB := HD.2.2.1
        have hcx := HC.out k hlt
        rw [← hB.cell (p := ⟨g, o + k * 3, none⟩) hg, ← hB.cell (p := ⟨g, o + k * 3 + 1, none⟩) hg, ← hB.cell (p := ⟨g, o + k * 3 + 2, none⟩) hg] at hcx
        have hprev : ∀ (j : Nat) (hj : j < l.length), k = j + 1 → (textS (l.take k)).2.2 = some l[j].1 ∧ wr.cell? ⟨g, o + j * 3, none⟩ = some (.bool l[j].1) := fun j hj e => by
          subst e
          exact ⟨textS_last l j hj, by rw [hB.cell (p := ⟨g, o + j * 3, none⟩) hg]; exact (HC.out j hj).1⟩
        have hfirst : k = 0 → (textS (l.take k)).2.2 = none := fun e => by subst e; rfl
        obtain ⟨⟨on, ch, ag⟩, hx⟩ : ∃ x, l[k] = x := ⟨_, rfl⟩
        rw [hx] at hstep hcx
        obtain ⟨⟨R, T, p⟩, hst⟩ : ∃ x, textS (l.take k) = x := ⟨_, rfl⟩
        rw [hst] at hstep HD hlen hprev hfirst
        simp only at hcx HD hlen hprev hfirst
        obtain ⟨c0, c1, c2⟩ := hcx
        have hwr := HD.2.2.2
        have HST := Lib.hid hstep
        have hR : R.length ≤ 200000 := by omega
        have hT : T.length ≤ 1000000 := by omega
        have hCB : CB (wr.alloc (.cells #[.bool on, .int .u8 ch.toNat, .string ag] 29)) wr.heap.size (on, ch, ag) := heap_alloc_new wr _
        have hS1 := HD.alloc (.cells #[.bool on, .int .u8 ch.toNat, .string ag] 29)
        clear hx hst hstep hlen hlk hB
        have ht : ∀ W, Calls Try.prog 10 #[.int .u8 ↑ch.toNat, .bool on] W fun e w' => e = .returned (.bool (takesB ch on)) ∧ W = w' := fun W => takes_b _ _ W
        have hp1 : (k : Int) < (l.length : Int) := by omega
        obtain ⟨b0, b1, b2⟩ := hCB.cells
        by_cases h0 : k = 0
        · have HP := Lib.hid (hfirst h0)
          have q0 : ((k : Int) == 0) = true := by rw [beq_iff_eq]; omega
          have HK := Lib.hid h0
          clear h0 hfirst hprev
          cases htk : takesB ch on
          · rw [htk] at ht
            have HT := Lib.hid htk
            clear htk
            go_wp2_with fail
            go_quiet (fail)
            all_goals go_wp2_with (first | (go_at_call 19; refine (sign_v _ _).mono ?_; rintro e w' ⟨rfl, rfl⟩) | (go_at_call 10; refine (ht _).mono ?_; rintro e w' ⟨rfl, rfl⟩) | (at_builtin; refine wpList_row rfl _ _ rfl R T _ _ (hS1.drewN _) rfl wr.heap.size _ (on, ch, ag) hCB (by simp) rfl (sgn on) (by omega) ?_; intro r2 W2 S2 C2; obtain ⟨d0, d1, d2⟩ := C2.cells) | (at_builtin; refine wpList_row rfl _ _ rfl (R ++ [sgn on]) T _ _ S2 rfl wr.heap.size _ (on, ch, ag) C2 rfl rfl ch (by simp; omega) ?_; intro r3 W3 S3 C3; obtain ⟨f0, f1, f2⟩ := C3.cells) | (at_builtin; refine wpList_arg rfl _ _ rfl _ T _ _ S3 rfl _ rfl rfl ag (by omega) ?_; intro ar4 W4 S4))
            go_roundw
            case rel => exact ⟨k + 1, by go_num, by omega, done_mk (sg := [sgn on]) HST.out (by rw [HP.out, if_neg (by simp)]) (by rw [HT.out]; first | done | rfl) (by simpa using S3)⟩
            case measure => simp [intOf]; omega
          · rw [htk] at ht
            have HT := Lib.hid htk
            clear htk
            go_wp2_with fail
            go_quiet (fail)
            all_goals go_wp2_with (first | (go_at_call 19; refine (sign_v _ _).mono ?_; rintro e w' ⟨rfl, rfl⟩) | (go_at_call 10; refine (ht _).mono ?_; rintro e w' ⟨rfl, rfl⟩) | (at_builtin; refine wpList_row rfl _ _ rfl R T _ _ (hS1.drewN _) rfl wr.heap.size _ (on, ch, ag) hCB (by simp) rfl (sgn on) (by omega) ?_; intro r2 W2 S2 C2; obtain ⟨d0, d1, d2⟩ := C2.cells) | (at_builtin; refine wpList_row rfl _ _ rfl (R ++ [sgn on]) T _ _ S2 rfl wr.heap.size _ (on, ch, ag) C2 rfl rfl ch (by simp; omega) ?_; intro r3 W3 S3 C3; obtain ⟨f0, f1, f2⟩ := C3.cells) | (at_builtin; refine wpList_arg rfl _ _ rfl _ T _ _ S3 rfl _ rfl rfl ag (by omega) ?_; intro ar4 W4 S4))
            go_roundw
            case rel => exact ⟨k + 1, by go_num, by omega, done_mk (sg := [sgn on]) HST.out (by rw [HP.out, if_neg (by simp)]) (by rw [HT.out]; first | done | rfl) (by simpa using S4)⟩
            case measure => simp [intOf]; omega
        · obtain ⟨j, hj⟩ : ∃ j, k = j + 1 := ⟨k - 1, by omega⟩
          have hjl : j < l.length := by omega
          obtain ⟨hp, hcp⟩ := hprev j hjl hj
          obtain ⟨⟨on', ch', ag'⟩, hy⟩ : ∃ x, l[j] = x := ⟨_, rfl⟩
          rw [hy] at hp hcp
          simp only at hp hcp
          have q0 : ((k : Int) == 0) = false := by rw [beq_eq_false_iff_ne]; omega
          have q1 : (j : Int) < (l.length : Int) := by omega
          have q2 : (0 : Int) ≤ (j : Int) := by omega
          have q3 : (k : Int) - 1 = (j : Int) := by omega
          have q4 : IntKind.i64.wrap ((k : Int) - 1) = (j : Int) := by rw [q3]; exact IntWalk.i64_in _ (by omega)
          have hgw : g < wr.heap.size := by omega
          have HP := Lib.hid hp
          have HJ := Lib.hid hj
          clear h0 hfirst hprev hy hp hj
          cases on
          all_goals cases on'
          · have hcp2 := hcp
            cases htk : takesB ch false
            · rw [htk] at ht
              have HT := Lib.hid htk
              clear htk
              go_wp2_with fail
              go_quiet (fail)
              all_goals go_wp2_with (first | (go_at_call 10; refine (ht _).mono ?_; rintro e w' ⟨rfl, rfl⟩) | (at_builtin; refine wpList_row rfl _ _ rfl R T _ _ (hS1.drewN _) rfl wr.heap.size _ (false, ch, ag) hCB (by simp) rfl ch (by omega) ?_; intro r3 W3 S3 C3; obtain ⟨f0, f1, f2⟩ := C3.cells) | (at_builtin; refine wpList_arg rfl _ _ rfl _ T _ _ S3 rfl _ rfl rfl ag (by omega) ?_; intro ar4 W4 S4))
              go_roundw
              case rel => exact ⟨k + 1, by go_num, by omega, done_mk (sg := []) HST.out (by rw [HP.out, if_pos rfl]) (by rw [HT.out]; first | done | rfl) (by simpa using S3)⟩
              case measure => simp [intOf]; omega
            · rw [htk] at ht
              have HT := Lib.hid htk
              clear htk
              go_wp2_with fail
              go_quiet (fail)
              all_goals go_wp2_with (first | (go_at_call 10; refine (ht _).mono ?_; rintro e w' ⟨rfl, rfl⟩) | (at_builtin; refine wpList_row rfl _ _ rfl R T _ _ (hS1.drewN _) rfl wr.heap.size _ (false, ch, ag) hCB (by simp) rfl ch (by omega) ?_; intro r3 W3 S3 C3; obtain ⟨f0, f1, f2⟩ := C3.cells) | (at_builtin; refine wpList_arg rfl _ _ rfl _ T _ _ S3 rfl _ rfl rfl ag (by omega) ?_; intro ar4 W4 S4))
              go_roundw
              case rel => exact ⟨k + 1, by go_num, by omega, done_mk (sg := []) HST.out (by rw [HP.out, if_pos rfl]) (by rw [HT.out]; first | done | rfl) (by simpa using S4)⟩
              case measure => simp [intOf]; omega
          · have hcp2 := hcp
            cases htk : takesB ch false
            · rw [htk] at ht
              have HT := Lib.hid htk
              clear htk
              go_wp2_with fail
              go_quiet (fail)
              all_goals go_wp2_with (first | (go_at_call 19; refine (sign_v _ _).mono ?_; rintro e w' ⟨rfl, rfl⟩) | (go_at_call 10; refine (ht _).mono ?_; rintro e w' ⟨rfl, rfl⟩) | (at_builtin; refine wpList_row rfl _ _ rfl R T _ _ (hS1.drewN _) rfl wr.heap.size _ (false, ch, ag) hCB (by simp) rfl (sgn false) (by omega) ?_; intro r2 W2 S2 C2; obtain ⟨d0, d1, d2⟩ := C2.cells) | (at_builtin; refine wpList_row rfl _ _ rfl (R ++ [sgn false]) T _ _ S2 rfl wr.heap.size _ (false, ch, ag) C2 rfl rfl ch (by simp; omega) ?_; intro r3 W3 S3 C3; obtain ⟨f0, f1, f2⟩ := C3.cells) | (at_builtin; refine wpList_arg rfl _ _ rfl _ T _ _ S3 rfl _ rfl rfl ag (by omega) ?_; intro ar4 W4 S4))
              go_roundw
              case rel => exact ⟨k + 1, by go_num, by omega, done_mk (sg := [sgn false]) HST.out (by rw [HP.out, if_neg (by simp)]) (by rw [HT.out]; first | done | rfl) (by simpa using S3)⟩
              case measure => simp [intOf]; omega
            · rw [htk] at ht
              have HT := Lib.hid htk
              clear htk
              go_wp2_with fail
              go_quiet (fail)
              all_goals go_wp2_with (first | (go_at_call 19; refine (sign_v _ _).mono ?_; rintro e w' ⟨rfl, rfl⟩) | (go_at_call 10; refine (ht _).mono ?_; rintro e w' ⟨rfl, rfl⟩) | (at_builtin; refine wpList_row rfl _ _ rfl R T _ _ (hS1.drewN _) rfl wr.heap.size _ (false, ch, ag) hCB (by simp) rfl (sgn false) (by omega) ?_; intro r2 W2 S2 C2; obtain ⟨d0, d1, d2⟩ := C2.cells) | (at_builtin; refine wpList_row rfl _ _ rfl (R ++ [sgn false]) T _ _ S2 rfl wr.heap.size _ (false, ch, ag) C2 rfl rfl ch (by simp; omega) ?_; intro r3 W3 S3 C3; obtain ⟨f0, f1, f2⟩ := C3.cells) | (at_builtin; refine wpList_arg rfl _ _ rfl _ T _ _ S3 rfl _ rfl rfl ag (by omega) ?_; intro ar4 W4 S4))
              go_roundw
              case rel => exact ⟨k + 1, by go_num, by omega, done_mk (sg := [sgn false]) HST.out (by rw [HP.out, if_neg (by simp)]) (by rw [HT.out]; first | done | rfl) (by simpa using S4)⟩
              case measure => simp [intOf]; omega
          · have hcp2 := hcp
            cases htk : takesB ch true
            · rw [htk] at ht
              have HT := Lib.hid htk
              clear htk
              go_wp2_with fail
              go_quiet (fail)
              all_goals go_wp2_with (first | (go_at_call 19; refine (sign_v _ _).mono ?_; rintro e w' ⟨rfl, rfl⟩) | (go_at_call 10; refine (ht _).mono ?_; rintro e w' ⟨rfl, rfl⟩) | (at_builtin; refine wpList_row rfl _ _ rfl R T _ _ (hS1.drewN _) rfl wr.heap.size _ (true, ch, ag) hCB (by simp) rfl (sgn true) (by omega) ?_; intro r2 W2 S2 C2; obtain ⟨d0, d1, d2⟩ := C2.cells) | (at_builtin; refine wpList_row rfl _ _ rfl (R ++ [sgn true]) T _ _ S2 rfl wr.heap.size _ (true, ch, ag) C2 rfl rfl ch (by simp; omega) ?_; intro r3 W3 S3 C3; obtain ⟨f0, f1, f2⟩ := C3.cells) | (at_builtin; refine wpList_arg rfl _ _ rfl _ T _ _ S3 rfl _ rfl rfl ag (by omega) ?_; intro ar4 W4 S4))
              go_roundw
              case rel => exact ⟨k + 1, by go_num, by omega, done_mk (sg := [sgn true]) HST.out (by rw [HP.out, if_neg (by simp)]) (by rw [HT.out]; first | done | rfl) (by simpa using S3)⟩
              case measure => simp [intOf]; omega
            · rw [htk] at ht
              have HT := Lib.hid htk
              clear htk
              go_wp2_with fail
              go_quiet (fail)
              all_goals go_wp2_with (first | (go_at_call 19; refine (sign_v _ _).mono ?_; rintro e w' ⟨rfl, rfl⟩) | (go_at_call 10; refine (ht _).mono ?_; rintro e w' ⟨rfl, rfl⟩) | (at_builtin; refine wpList_row rfl _ _ rfl R T _ _ (hS1.drewN _) rfl wr.heap.size _ (true, ch, ag) hCB (by simp) rfl (sgn true) (by omega) ?_; intro r2 W2 S2 C2; obtain ⟨d0, d1, d2⟩ := C2.cells) | (at_builtin; refine wpList_row rfl _ _ rfl (R ++ [sgn true]) T _ _ S2 rfl wr.heap.size _ (true, ch, ag) C2 rfl rfl ch (by simp; omega) ?_; intro r3 W3 S3 C3; obtain ⟨f0, f1, f2⟩ := C3.cells) | (at_builtin; refine wpList_arg rfl _ _ rfl _ T _ _ S3 rfl _ rfl rfl ag (by omega) ?_; intro ar4 W4 S4))
              go_roundw
              case rel => exact ⟨k + 1, by go_num, by omega, done_mk (sg := [sgn true]) HST.out (by rw [HP.out, if_neg (by simp)]) (by rw [HT.out]; first | done | rfl) (by simpa using S4)⟩
              case measure => simp [intOf]; omega
          · have hcp2 := hcp
            cases htk : takesB ch true
            · rw [htk] at ht
              have HT := Lib.hid htk
              clear htk
              go_wp2_with fail
              go_quiet (fail)
              all_goals go_wp2_with (first | (go_at_call 10; refine (ht _).mono ?_; rintro e w' ⟨rfl, rfl⟩) | (at_builtin; refine wpList_row rfl _ _ rfl R T _ _ (hS1.drewN _) rfl wr.heap.size _ (true, ch, ag) hCB (by simp) rfl ch (by omega) ?_; intro r3 W3 S3 C3; obtain ⟨f0, f1, f2⟩ := C3.cells) | (at_builtin; refine wpList_arg rfl _ _ rfl _ T _ _ S3 rfl _ rfl rfl ag (by omega) ?_; intro ar4 W4 S4))
              go_roundw
              case rel => exact ⟨k + 1, by go_num, by omega, done_mk (sg := []) HST.out (by rw [HP.out, if_pos rfl]) (by rw [HT.out]; first | done | rfl) (by simpa using S3)⟩
              case measure => simp [intOf]; omega
            · rw [htk] at ht
              have HT := Lib.hid htk
              clear htk
              go_wp2_with fail
              go_quiet (fail)
              all_goals go_wp2_with (first | (go_at_call 10; refine (ht _).mono ?_; rintro e w' ⟨rfl, rfl⟩) | (at_builtin; refine wpList_row rfl _ _ rfl R T _ _ (hS1.drewN _) rfl wr.heap.size _ (true, ch, ag) hCB (by simp) rfl ch (by omega) ?_; intro r3 W3 S3 C3; obtain ⟨f0, f1, f2⟩ := C3.cells) | (at_builtin; refine wpList_arg rfl _ _ rfl _ T _ _ S3 rfl _ rfl rfl ag (by omega) ?_; intro ar4 W4 S4))
              go_roundw
              case rel => exact ⟨k + 1, by go_num, by omega, done_mk (sg := []) HST.out (by rw [HP.out, if_pos rfl]) (by rw [HT.out]; first | done | rfl) (by simpa using S4)⟩
              case measure => simp [intOf]; omega
      · obtain rfl : k = l.length := by omega
        have hp1 : ¬ ((l.length : Int) < (l.length : Int)) := by omega
        rw [List.take_of_length_le (Nat.le_refl _)] at HD
        have hlen := textS_len l
        have hM : textM l = bs (textS l).1 :: (textS l).2.1 := by unfold textM; rw [if_neg (by intro e; rw [e] at hne; simp at hne)]
        obtain ⟨⟨R, T, p⟩, hst⟩ : ∃ x, textS l = x := ⟨_, rfl⟩
        rw [hst] at HD hlen hM
        simp only at HD hlen hM
        have HM := Lib.hid hM
        clear hst hM
        have hconv := conv_owned (P := Try.prog) wr 39 9 5 w.heap.size _ R Try.underlying39 Try.underlying5 Try.underlying9 HD.1
        go_wp2_with (at_builtin; refine wpList_all rfl _ _ rfl R T _ _ HD _ rfl rfl rfl (bs R) (by omega) ?_; intro v W' hown hB')
        have HO := Lib.hid hown
        go_ret
        have hown := HO.out
        rw [← HM.out] at hown
        obtain ⟨A', c', rfl, hc', hrow⟩ := RowT.owned hown
        exact ⟨A', c', rfl, hc', hrow, hB'⟩
  · have : l = [] := List.eq_nil_of_length_eq_zero (by omega)
    subst this
    exact text_zero A c w
end Go.Proofs.Ytbpnaclnninndaa
