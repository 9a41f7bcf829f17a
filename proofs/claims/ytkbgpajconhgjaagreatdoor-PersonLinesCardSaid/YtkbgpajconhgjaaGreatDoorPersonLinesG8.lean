/- Texts of this proof, one behind the other. -/
import Derived.Test.YtkbgpajconhgjaaGreatDoorPersonLinesG5
import Derived.Test.YtkbgpajconhgjaaGreatDoorPersonLinesG7
import Derived.Test.YtkbgpajconhgjaaGreatDoorPersonLinesG6
set_option linter.unusedVariables false
set_option linter.unusedSimpArgs false
section
/- Layer 22: the document's bare, long. -/
namespace Go.Proofs.YtkbgpajconhgjaaGreatDoor
open Go Go.RowKit

theorem bare_next (s : List UInt8) (k : Nat) (h : k < s.length) : (s.take (k + 1)).filter (fun b => decide (b ≠ 32)) = (s.take k).filter (fun b => decide (b ≠ 32)) ++ (if s[k] = 32 then [] else [s[k]]) := by
  rw [List.take_succ_eq_append_getElem h, List.filter_append]
  congr 1
  by_cases e : s[k] = 32
  · rw [if_pos e]; simp [e]
  · rw [if_neg e]; simp [e]
set_option maxHeartbeats 4000000 in
theorem bare_r (s : List UInt8) (w : World) (hl : s.length ≤ 100000) :
    Calls Tryz.prog 36 #[.string (bs s)] w fun e w' => e = .returned (.string (bs (bareL s))) ∧ w = w' := by
  have hsz : (bs s).size = s.length := by simp
  have HCL : Hid (∀ q : List UInt8, q.length ≤ 100000 → ∀ W, Calls Tryz.prog 49 #[.string (bs q), .int .i64 (q.length : Nat)] W fun e w' => e = .returned (.string (bs (cleanL q))) ∧ W = w') := Lib.hid fun q hq W => clean_rl q W (by omega)
  go_enter Tryz.func36, Tryz.ntmps36
  go_wp2_with fail
  go_loopw [3, 4] (fun v i wr => ∃ (k : Nat), i = .int .i64 k ∧ k ≤ s.length ∧ v = .string (bs ((s.take k).filter fun b => decide (b ≠ 32))) ∧ wr = w) (fun _ i _ => s.length - (Go.RowKit.intOf i).toNat)
  case atStart => exact ⟨0, rfl, Nat.zero_le _, rfl, rfl⟩
  case round =>
    obtain ⟨k, rfl, hk, rfl, rfl⟩ := hrel
    have hDl : ((s.take k).filter fun b => decide (b ≠ 32)).length ≤ 100000 := by
      have h1 := List.length_filter_le (fun b => decide (b ≠ 32)) (s.take k)
      rw [List.length_take] at h1; omega
    by_cases hlt : k < s.length
    · have hki : k < (bs s).size := by rw [hsz]; exact hlt
      have hbk : (bs s)[k]'hki = s[k]'hlt := rfl
      have htk := bare_next s k hlt
      have hex := bs_ext1 s k hlt
      obtain ⟨D, hD⟩ : ∃ D, ((s.take k).filter fun b => decide (b ≠ 32)) = D := ⟨_, rfl⟩
      rw [hD] at htk hDl ⊢
      obtain ⟨b, hb⟩ : ∃ b, s[k]'hlt = b := ⟨_, rfl⟩
      rw [hb] at htk hbk hex
      have HT := Lib.hid htk
      have HE := Lib.hid hex
      clear htk hb hex hD
      by_cases h1 : b = 32
      · have q1 : ((((bs s)[k]'hki).toNat : Int) != 32) = false := by rw [hbk, h1]; rfl
        have H1 := Lib.hid h1
        clear h1 hbk
        go_wp2_with fail
        go_roundw
        case rel => exact ⟨k + 1, by go_num, by omega, by rw [HT.out, if_pos H1.out, List.append_nil], by simp⟩
        case measure => simp [Go.RowKit.intOf]; omega
      · have q1 : ((((bs s)[k]'hki).toNat : Int) != 32) = true := by
          rw [hbk, bne_iff_ne]; intro e; exact h1 (UInt8.toNat_inj.mp (by show b.toNat = 32; omega))
        have H1 := Lib.hid h1
        clear h1 hbk
        go_wp2_with fail
        go_roundw
        case rel => exact ⟨k + 1, by go_num, by omega, by rw [HT.out, if_neg H1.out, ← bs_join, ← HE.out], by simp⟩
        case measure => simp [Go.RowKit.intOf]; omega
    · obtain rfl : k = (bs s).size := by omega
      have hfull : s.take (bs s).size = s := List.take_of_length_le (by omega)
      rw [hfull] at hDl ⊢
      obtain ⟨D, hD⟩ : ∃ D, (s.filter fun b => decide (b ≠ 32)) = D := ⟨_, rfl⟩
      rw [hD] at hDl ⊢
      have hfin : bareL s = cleanL D := by rw [← hD]; exact (bareL_swap s).symm
      have HF := Lib.hid hfin
      have HC := Lib.hid (HCL.out D hDl)
      clear hfin hD hfull HCL
      go_wp2_with (go_at_call 49; refine (HC.out _).mono ?_; rintro e w' ⟨rfl, rfl⟩)
      go_ret
      exact ⟨by rw [HF.out]; rfl, rfl⟩
/-- how many bytes a line has ahead of its last word -/
def lenP (p : List UInt8) : Nat := 1 + max (cleanL p).length 1
def headN (server : List UInt8) : Nat := if cleanL server = [] then 0 else (cleanL server).length + 2
def longN (server : List UInt8) (qs : List (List UInt8)) : Nat := headN server + 3 + (qs.map lenP).sum + 2
theorem sum_take (qs : List (List UInt8)) (k : Nat) (h : k < qs.length) : ((qs.take (k + 1)).map lenP).sum = ((qs.take k).map lenP).sum + lenP qs[k] := by
  rw [List.take_succ_eq_append_getElem h, List.map_append, List.sum_append]
  simp
theorem midU_len2 (l : List UInt8) : (midU l).length = max l.length 1 := by
  cases l with
  | nil => rfl
  | cons b r =>
    have h1 : (midU (b :: r)).length = r.length + 1 := by
      show (if b = 58 then 45 :: r else b :: r).length = _
      split <;> rfl
    rw [h1, List.length_cons]; omega
theorem mid_len (l : List UInt8) : (midL l).length = max l.length 1 := by
  unfold midL
  rw [midU_len2]
  unfold dashL
  rw [List.length_map]
theorem tail_len : ∀ qs : List (List UInt8), (tailL (parsL ((qs ++ [[]]).map cleanL))).length = (qs.map lenP).sum + 2
  | [] => rfl
  | p :: qs => by
    have ih := tail_len qs
    obtain ⟨x, r, hx⟩ : ∃ x r, (qs ++ [[]]).map cleanL = x :: r := by
      cases h : (qs ++ [[]]).map cleanL with
      | nil => simp at h
      | cons x r => exact ⟨x, r, rfl⟩
    rw [List.cons_append, List.map_cons, hx]
    rw [hx] at ih
    obtain ⟨y, z, hy⟩ : ∃ y z, parsL (x :: r) = y :: z := by
      cases h : parsL (x :: r) with
      | nil => have := parsL_len (x :: r); rw [h] at this; simp at this
      | cons y z => exact ⟨y, z, rfl⟩
    show (tailL (midL (cleanL p) :: parsL (x :: r))).length = _
    rw [hy] at ih ⊢
    show (32 :: (midL (cleanL p) ++ tailL (y :: z))).length = _
    rw [List.length_cons, List.length_append, ih, mid_len, List.map_cons, List.sum_cons]
    unfold lenP
    omega
theorem ahead_eq {server whom : List UInt8} {n : Nat} {ps : List (List UInt8)} (hw : whom ≠ []) (h : longN server (whom :: ps) ≤ 510) : aheadL server whom n ps = longN server (whom :: ps) := by
  have h1 : (writeL (dashL (cleanL server)) (codeL n) (lineP (whom :: (ps ++ [[]])))).length = longN server (whom :: ps) := by
    unfold writeL longN
    rw [List.length_append, List.length_append]
    have h2 := tail_len (whom :: ps)
    have h3 : (headL (dashL (cleanL server))).length = headN server := by
      unfold headL headN dashL
      cases hc : cleanL server with
      | nil => rfl
      | cons b r => simp
    have h4 : (codeL n).length = 3 := rfl
    unfold lineP
    rw [h3, h4, show whom :: (ps ++ [[]]) = (whom :: ps) ++ [[]] from rfl, h2]
    omega
  unfold aheadL numL makeL
  rw [List.length_take]
  unfold toL
  rw [if_neg hw, h1]
  omega
theorem wrapI {x : Int} (h : 0 ≤ x) (h2 : x ≤ 1000000000) : IntKind.i64.wrap x = x := by
  simp [IntKind.wrap, IntKind.signed, IntKind.bits]
  omega
set_option maxRecDepth 100000 in
set_option maxHeartbeats 8000000 in
theorem long_r (server whom last : List UInt8) (n : Int) (A : Option Addr) (c : Nat) (ps : List (List UInt8)) (w : World) (hw : whom ≠ []) (hR : ReadsT w A ps) (h2 : ps.length ≤ 13) (h3 : server.length ≤ 90000) (h4 : whom.length ≤ 90000) (h5 : ∀ p ∈ ps, p.length ≤ 90000) (h6 : last.length ≤ 90000) :
    Calls Tryz.prog 37 #[.string (bs server), .int .i64 n, .string (bs whom), .slice A ps.length c, .string (bs last)] w fun e w' => e = .returned (.int .i64 ((longN server (whom :: ps) + last.length : Nat) : Int)) ∧ Below w.heap.size w w' := by
  obtain ⟨i0, hi0, hz0, hz1, hz2⟩ := info_parts Tryz.infoT
  have HCs := Lib.hid (clean_rl server w (by omega))
  have HClAll : Hid (∀ q : List UInt8, q.length ≤ 90000 → ∀ W, Calls Tryz.prog 49 #[.string (bs q), .int .i64 (q.length : Nat)] W fun e w' => e = .returned (.string (bs (cleanL q))) ∧ W = w') := Lib.hid fun q hq W => clean_rl q W (by omega)
  obtain ⟨qs, hqs⟩ : ∃ qs, whom :: ps = qs := ⟨_, rfl⟩
  have hql : qs.length = ps.length + 1 := by rw [← hqs]; rfl
  have hq5 : ∀ q ∈ qs, q.length ≤ 90000 := fun q hq => by
    rw [← hqs] at hq
    rcases List.mem_cons.1 hq with rfl | hq
    · exact h4
    · exact h5 q hq
  have HQ5 := Lib.hid hq5
  obtain ⟨a0, ar, hwa⟩ : ∃ a r, whom = a :: r := by
    cases whom with
    | nil => exact absurd rfl hw
    | cons a r => exact ⟨a, r, rfl⟩
  have hemp := str_ne (s := bs whom) (by rw [hwa]; simp)
  have hO := ownT_lit (W := w.alloc (.cells #[.string (bs whom)] 9)) (B := w.heap.size) (base := w.heap.size) (xs := [whom]) (Nat.le_refl _) (heap_alloc_new w _) (by simp)
  have HO := Lib.hid (show OwnT w.heap.size (w.alloc (.cells #[.string (bs whom)] 9)) (.slice (some ⟨w.heap.size, 0, none⟩) 1 1) [whom] from hO)
  have hsa : w.heap.size ≤ (w.alloc (.cells #[.string (bs whom)] 9)).heap.size := by rw [World.size_alloc]; omega
  have HSrc := Lib.hid (srcT (c := c) (readsT_below hR ((Below.refl _ w).alloc (Nat.le_refl _) (.cells #[.string (bs whom)] 9)) (Nat.le_refl _)))
  have hhd : Hid (headN server = if cleanL server = [] then 0 else (cleanL server).length + 2) := Lib.hid rfl
  have hcl := clean_len server
  have hhl : headN server ≤ server.length + 2 := by unfold headN; split <;> omega
  obtain ⟨cs, hcs⟩ : ∃ cs, cleanL server = cs := ⟨_, rfl⟩
  rw [hcs] at HCs hhd hcl
  obtain ⟨hn, hhn⟩ : ∃ hn, headN server = hn := ⟨_, rfl⟩
  rw [hhn] at hhd hhl
  have HL : Hid (longN server qs = hn + 3 + (qs.map lenP).sum + 2) := Lib.hid (by unfold longN; rw [hhn])
  have HQS := Lib.hid hqs
  rw [hqs]
  have hqb : qs.length ≤ 14 := by omega
  have HQL := Lib.hid hql
  clear hR h5 hq5 hwa hw hO hcs hhn hql
  have HQsum : Hid (∀ k, k ≤ qs.length → ((qs.take k).map lenP).sum ≤ k * 90001) := Lib.hid (by
    intro k
    induction k with
    | zero => intro _; simp
    | succ k ih =>
      intro hk
      rw [sum_take qs k (by omega)]
      have h7 := ih (by omega)
      have h8 := HQ5.out qs[k] (List.getElem_mem _)
      have h9 := clean_len (qs[k])
      have h10 : lenP qs[k] ≤ 90001 := by unfold lenP; omega
      omega)
  cases cs with
  | nil =>
    have H0 : Hid (hn = 0) := Lib.hid (by rw [hhd.out]; rfl)
    have e0 : bs ([] : List UInt8) = ({ data := #[] } : ByteArray) := rfl
    rw [e0] at HCs
    clear e0
    go_enter Tryz.func37, Tryz.ntmps37
    go_wp2_with fail
    refine HCs.out.mono ?_
    rintro e w' ⟨rfl, rfl⟩
    go_wp2_with (at_builtin; refine wpList_app_u rfl _ _ 26 26 rfl w.heap.size 9 i0 _ 1 16 Tryz.underlying26 hi0 hz0 hz1 hz2 rfl _ 1 ([whom].map encT) rfl HO.out (.slice A ps.length c) ps.length (ps.map encT) rfl HSrc.out (by omega) (by decide) hsa ?_)
    intro v3 w3 r1 r2 r3
    have hown : OwnT w.heap.size w3 v3 qs := by
      unfold OwnT
      rw [HQL.out, Nat.add_comm, ← HQS.out]
      exact r1
    obtain ⟨A2, c2, rfl⟩ := row_slice hown
    have hb3 : Below w.heap.size w w3 := ((Below.refl _ w).alloc (Nat.le_refl _) (.cells #[.string (bs whom)] 9)).trans (r2.below (by omega) fun k _ hk => by cases hk; exact Nat.le_refl _)
    have HR := Lib.hid (reads_ownT hown)
    have HB := Lib.hid hb3
    clear r1 r2 r3 hown hb3
    go_wp2_with fail
    go_loopw [11, 14] (fun a i wr => ∃ k : Nat, i = .int .i64 k ∧ k ≤ qs.length ∧ a = .int .i64 ((hn + 3 + ((qs.take k).map lenP).sum : Nat) : Int) ∧ Fr (fun _ => False) w3 wr) (fun _ i _ => qs.length - (Go.RowKit.intOf i).toNat)
    case atStart => exact ⟨0, rfl, Nat.zero_le _, by simp [H0.out], Fr.refl _ _⟩
    case round =>
      obtain ⟨k, rfl, hk, rfl, hfr⟩ := hrel
      have hsm := HQsum.out k hk
      by_cases hlt : k < qs.length
      · obtain ⟨g, o, hA, hg, hc⟩ := HR.out (by omega)
        have hcell : wr.cell? ⟨g, o + k, none⟩ = some (.string (bs qs[k])) := (hfr.cell (p := ⟨g, o + k, none⟩) hg (fun e => e)).trans (hc k hlt)
        have hpk := HQ5.out qs[k] (List.getElem_mem hlt)
        have hst := sum_take qs k hlt
        obtain ⟨p, hp⟩ : ∃ p, qs[k]'hlt = p := ⟨_, rfl⟩
        rw [hp] at hcell hpk hst
        have hgw : g < wr.heap.size := World.block_lt_of_cell? _ _ hcell
        have HCELL : Hid (∀ W, Fr (fun _ => False) wr W → W.cell? ⟨g, o + k, none⟩ = some (.string (bs p))) := Lib.hid fun W hf => (hf.cell (p := ⟨g, o + k, none⟩) hgw (fun h => h)).trans hcell
        have HCL := Lib.hid (HClAll.out p hpk)
        have hcp := clean_len p
        have hHk : k < 14 := by omega
        have hlp : lenP p = 1 + max (cleanL p).length 1 := rfl
        obtain ⟨q, hq⟩ : ∃ q, cleanL p = q := ⟨_, rfl⟩
        rw [hq] at HCL hcp hlp
        obtain ⟨sm, hsm2⟩ : ∃ sm, ((qs.take k).map lenP).sum = sm := ⟨_, rfl⟩
        rw [hsm2] at hsm hst ⊢
        have HST := Lib.hid (And.intro hst hlp)
        have HFR := Lib.hid hfr
        clear hc hp hq hg hcell hgw hst hsm2 hlp hfr
        subst hA
        go_wp2_with fail
        refine wp_region_held_drew (S := fun W => Fr (fun _ => False) wr W) (by kernel_rfl) (by exact (Fr.refl _ wr).drew) (fun hHeld => ?_)
        refine wpAnyH_read (i := 0) (oi := { dst := some 40, op := Go.Op.move (Go.Operand.tmp 11), type := 3, pos := "ref.go:76", after := #[], guard := none }) ?_ rfl (by kernel_rfl) (by kernel_rfl) (by kernel_rfl) (fun _ _ _ h => h) (by rfl) (by assumption) ?_ ?_
        rotate_left
        · (intro w0 hS0; go_simp <;> (try with_reducible rfl))
        try simp only [Act.put, List.setIfInBounds_toArray, List.set_cons_zero, List.set_cons_succ]
        refine wpAnyH_read (i := 1) (oi := { dst := some 41, op := Go.Op.binOp Go.BinOp.add 3 (Go.Operand.tmp 40) (Go.Operand.const (Go.Value.int Go.IntKind.i64 1)) 3, type := 3, pos := "ref.go:76", after := #[{ on := 0, ground := Go.Ground.data }], guard := none }) ?_ rfl (by kernel_rfl) (by kernel_rfl) (by kernel_rfl) (fun _ _ _ h => h) (by rfl) (by assumption) ?_ ?_
        rotate_left
        · (intro w0 hS0; go_simp <;> (try with_reducible rfl))
        try simp only [Act.put, List.setIfInBounds_toArray, List.set_cons_zero, List.set_cons_succ]
        refine wpAnyH_read (i := 2) (oi := { dst := some 42, op := Go.Op.move (Go.Operand.tmp 13), type := 26, pos := "ref.go:76", after := #[], guard := none }) ?_ rfl (by kernel_rfl) (by kernel_rfl) (by kernel_rfl) (fun _ _ _ h => h) (by rfl) (by assumption) ?_ ?_
        rotate_left
        · (intro w0 hS0; go_simp <;> (try with_reducible rfl))
        try simp only [Act.put, List.setIfInBounds_toArray, List.set_cons_zero, List.set_cons_succ]
        refine wpAnyH_read (i := 3) (oi := { dst := some 43, op := Go.Op.move (Go.Operand.tmp 14), type := 3, pos := "ref.go:76", after := #[], guard := none }) ?_ rfl (by kernel_rfl) (by kernel_rfl) (by kernel_rfl) (fun _ _ _ h => h) (by rfl) (by assumption) ?_ ?_
        rotate_left
        · (intro w0 hS0; go_simp <;> (try with_reducible rfl))
        try simp only [Act.put, List.setIfInBounds_toArray, List.set_cons_zero, List.set_cons_succ]
        refine wpAnyH_read (i := 4) (oi := { dst := some 44, op := Go.Op.indexAddr 26 (Go.Operand.tmp 42) (Go.Operand.tmp 43), type := 0, pos := "ref.go:76", after := #[{ on := 2, ground := Go.Ground.data }, { on := 3, ground := Go.Ground.data }], guard := none }) ?_ rfl (by kernel_rfl) (by kernel_rfl) (by kernel_rfl) (fun _ _ _ h => h) (by rfl) (by assumption) ?_ ?_
        rotate_left
        · (intro w0 hS0; go_simp <;> (try with_reducible rfl))
        try simp only [Act.put, List.setIfInBounds_toArray, List.set_cons_zero, List.set_cons_succ]
        refine wpAnyH_read (i := 6) (oi := { dst := some 46, op := Go.Op.move (Go.Operand.tmp 13), type := 26, pos := "ref.go:76", after := #[], guard := none }) ?_ rfl (by kernel_rfl) (by kernel_rfl) (by kernel_rfl) (fun _ _ _ h => h) (by rfl) (by assumption) ?_ ?_
        rotate_left
        · (intro w0 hS0; go_simp <;> (try with_reducible rfl))
        try simp only [Act.put, List.setIfInBounds_toArray, List.set_cons_zero, List.set_cons_succ]
        refine wpAnyH_read (i := 7) (oi := { dst := some 47, op := Go.Op.move (Go.Operand.tmp 14), type := 3, pos := "ref.go:76", after := #[], guard := none }) ?_ rfl (by kernel_rfl) (by kernel_rfl) (by kernel_rfl) (fun _ _ _ h => h) (by rfl) (by assumption) ?_ ?_
        rotate_left
        · (intro w0 hS0; go_simp <;> (try with_reducible rfl))
        try simp only [Act.put, List.setIfInBounds_toArray, List.set_cons_zero, List.set_cons_succ]
        refine wpAnyH_read (i := 8) (oi := { dst := some 48, op := Go.Op.indexAddr 26 (Go.Operand.tmp 46) (Go.Operand.tmp 47), type := 0, pos := "ref.go:76", after := #[{ on := 6, ground := Go.Ground.data }, { on := 7, ground := Go.Ground.data }], guard := none }) ?_ rfl (by kernel_rfl) (by kernel_rfl) (by kernel_rfl) (fun _ _ _ h => h) (by rfl) (by assumption) ?_ ?_
        rotate_left
        · (intro w0 hS0; go_simp <;> (try with_reducible rfl))
        try simp only [Act.put, List.setIfInBounds_toArray, List.set_cons_zero, List.set_cons_succ]
        refine wpAnyH_read (i := 5) (oi := { dst := some 45, op := Go.Op.load 9 (Go.Operand.tmp 44), type := 9, pos := "ref.go:76", after := #[{ on := 4, ground := Go.Ground.data }], guard := none }) ?_ rfl (by kernel_rfl) (by kernel_rfl) (by kernel_rfl) (fun _ _ _ h => h) (by rfl) (by assumption) ?_ ?_
        rotate_left
        · (intro w0 hS0; have s0 := HCELL.out w0 hS0; go_simp <;> (try with_reducible rfl))
        try simp only [Act.put, List.setIfInBounds_toArray, List.set_cons_zero, List.set_cons_succ]
        refine wpAnyH_read (i := 9) (oi := { dst := some 49, op := Go.Op.load 9 (Go.Operand.tmp 48), type := 9, pos := "ref.go:76", after := #[{ on := 8, ground := Go.Ground.data }], guard := none }) ?_ rfl (by kernel_rfl) (by kernel_rfl) (by kernel_rfl) (fun _ _ _ h => h) (by rfl) (by assumption) ?_ ?_
        rotate_left
        · (intro w0 hS0; have s0 := HCELL.out w0 hS0; go_simp <;> (try with_reducible rfl))
        try simp only [Act.put, List.setIfInBounds_toArray, List.set_cons_zero, List.set_cons_succ]
        refine wpAnyH_read (i := 10) (oi := { dst := some 50, op := Go.Op.call { callee := Go.Callee.builtin Go.Builtin.len, args := #[Go.Operand.tmp 49], argTypes := #[9] }, type := 3, pos := "ref.go:76", after := #[{ on := 9, ground := Go.Ground.data }], guard := none }) ?_ rfl (by kernel_rfl) (by kernel_rfl) (by kernel_rfl) (fun _ _ _ h => h) (by rfl) (by assumption) ?_ ?_
        rotate_left
        · (intro w0 hS0; go_simp <;> (try with_reducible rfl))
        try simp only [Act.put, List.setIfInBounds_toArray, List.set_cons_zero, List.set_cons_succ]
        refine wpAnyH_one (i := 11) (o := { dst := some 51, op := Go.Op.call { callee := Go.Callee.value (Go.Operand.func 49), args := #[Go.Operand.tmp 45, Go.Operand.tmp 50], argTypes := #[9, 3] }, type := 9, pos := "ref.go:76", after := #[{ on := 5, ground := Go.Ground.data }, { on := 10, ground := Go.Ground.data }], guard := none }) (by kernel_rfl) rfl (by rfl) (fun K hK => ?_)
        go_simp
        refine (HCL.out _).mono ?_
        rintro e9 V1 ⟨rfl, rfl⟩
        refine hK.out _ _ ?_ (fun hHeld => ?_)
        · exact (Fr.refl _ wr).drew
        clear hK K
        try simp only [Act.put, List.setIfInBounds_toArray, List.set_cons_zero, List.set_cons_succ]
        refine wpAnyH_read (i := 12) (oi := { dst := some 52, op := Go.Op.call { callee := Go.Callee.builtin Go.Builtin.len, args := #[Go.Operand.tmp 51], argTypes := #[9] }, type := 3, pos := "ref.go:76", after := #[{ on := 11, ground := Go.Ground.data }], guard := none }) ?_ rfl (by kernel_rfl) (by kernel_rfl) (by kernel_rfl) (fun _ _ _ h => h) (by rfl) (by assumption) ?_ ?_
        rotate_left
        · (intro w0 hS0; go_simp <;> (try with_reducible rfl))
        try simp only [Act.put, List.setIfInBounds_toArray, List.set_cons_zero, List.set_cons_succ]
        refine wpAnyH_one (i := 13) (o := { dst := some 53, op := Go.Op.call { callee := Go.Callee.builtin Go.Builtin.max, args := #[Go.Operand.tmp 52, Go.Operand.const (Go.Value.int Go.IntKind.i64 1)], argTypes := #[3, 3] }, type := 3, pos := "ref.go:76", after := #[{ on := 12, ground := Go.Ground.data }], guard := none }) (by kernel_rfl) rfl (by rfl) (fun K hK => ?_)
        go_simp
        refine hK.out _ _ ?_ (fun hHeld => ?_)
        · (first | assumption | trivial)
        clear hK K
        try simp only [Act.put, List.setIfInBounds_toArray, List.set_cons_zero, List.set_cons_succ]
        refine wpAnyH_read (i := 14) (oi := { dst := some 54, op := Go.Op.binOp Go.BinOp.add 3 (Go.Operand.tmp 41) (Go.Operand.tmp 53) 3, type := 3, pos := "ref.go:76", after := #[{ on := 1, ground := Go.Ground.data }, { on := 13, ground := Go.Ground.data }], guard := none }) ?_ rfl (by kernel_rfl) (by kernel_rfl) (by kernel_rfl) (fun _ _ _ h => h) (by rfl) (by assumption) ?_ ?_
        rotate_left
        · (intro w0 hS0; go_simp <;> (try with_reducible rfl))
        try simp only [Act.put, List.setIfInBounds_toArray, List.set_cons_zero, List.set_cons_succ]
        refine wpAnyH_read (i := 15) (oi := { dst := some 11, op := Go.Op.assign (Go.Operand.tmp 54), type := 3, pos := "ref.go:76", after := #[{ on := 14, ground := Go.Ground.data }, { on := 11, ground := Go.Ground.chain }, { on := 0, ground := Go.Ground.phase }, { on := 1, ground := Go.Ground.phase }, { on := 2, ground := Go.Ground.phase }, { on := 3, ground := Go.Ground.phase }, { on := 4, ground := Go.Ground.phase }, { on := 5, ground := Go.Ground.phase }, { on := 6, ground := Go.Ground.phase }, { on := 7, ground := Go.Ground.phase }, { on := 8, ground := Go.Ground.phase }, { on := 9, ground := Go.Ground.phase }, { on := 10, ground := Go.Ground.phase }, { on := 11, ground := Go.Ground.phase }, { on := 12, ground := Go.Ground.phase }, { on := 13, ground := Go.Ground.phase }, { on := 14, ground := Go.Ground.phase }], guard := none }) ?_ rfl (by kernel_rfl) (by kernel_rfl) (by kernel_rfl) (fun _ _ _ h => h) (by rfl) (by assumption) ?_ ?_
        rotate_left
        · (intro w0 hS0; go_simp <;> (try with_reducible rfl))
        try simp only [Act.put, List.setIfInBounds_toArray, List.set_cons_zero, List.set_cons_succ]
        refine wpAnyH_done (by kernel_rfl) ?_ _
        obtain ⟨w9, hw9⟩ : ∃ W, wr.drew = W := ⟨_, rfl⟩
        have HF9 : Hid (Fr (fun _ => False) w3 w9) := Lib.hid (by rw [← hw9]; exact HFR.out.drew)
        rw [hw9]
        clear hw9
        go_wp2_with fail
        go_roundw
        case rel =>
          refine ⟨k + 1, by go_num, by omega, ?_, HF9.out⟩
          rw [HST.out.1, HST.out.2]
          refine congrArg (Value.int .i64) ?_
          rw [wrapI (x := (hn : Int) + 3 + sm + 1) (by omega) (by omega), wrapI (by omega) (by omega)]
          push_cast
          omega
        case measure => simp [Go.RowKit.intOf]; omega
      · obtain rfl : k = qs.length := by omega
        rw [List.take_length] at hsm ⊢
        obtain ⟨sm, hsm2⟩ : ∃ sm, (qs.map lenP).sum = sm := ⟨_, rfl⟩
        rw [hsm2] at hsm ⊢
        have HSM := Lib.hid hsm2
        have HFR := Lib.hid hfr
        clear hsm2 hfr
        go_wp2_with fail
        go_ret
        refine ⟨?_, HB.out.trans ((fr_below_no HFR.out).mono HB.out.size)⟩
        rw [HL.out, HSM.out]
        refine congrArg (fun x => Ending.returned (Value.int .i64 x)) ?_
        first | omega | (push_cast; omega)
  | cons s0 sr =>
    have hemp2 := str_ne (s := bs (s0 :: sr)) (by simp)
    have H0 : Hid (hn = sr.length + 1 + 2) := Lib.hid (by rw [hhd.out]; simp)
    have hsl : sr.length ≤ 90000 := by simp only [List.length_cons] at hcl; omega
    go_enter Tryz.func37, Tryz.ntmps37
    go_wp2_with fail
    refine HCs.out.mono ?_
    rintro e w' ⟨rfl, rfl⟩
    go_wp2_with (at_builtin; refine wpList_app_u rfl _ _ 26 26 rfl w.heap.size 9 i0 _ 1 16 Tryz.underlying26 hi0 hz0 hz1 hz2 rfl _ 1 ([whom].map encT) rfl HO.out (.slice A ps.length c) ps.length (ps.map encT) rfl HSrc.out (by omega) (by decide) hsa ?_)
    intro v3 w3 r1 r2 r3
    have hown : OwnT w.heap.size w3 v3 qs := by
      unfold OwnT
      rw [HQL.out, Nat.add_comm, ← HQS.out]
      exact r1
    obtain ⟨A2, c2, rfl⟩ := row_slice hown
    have hb3 : Below w.heap.size w w3 := ((Below.refl _ w).alloc (Nat.le_refl _) (.cells #[.string (bs whom)] 9)).trans (r2.below (by omega) fun k _ hk => by cases hk; exact Nat.le_refl _)
    have HR := Lib.hid (reads_ownT hown)
    have HB := Lib.hid hb3
    clear r1 r2 r3 hown hb3
    go_wp2_with fail
    go_loopw [11, 14] (fun a i wr => ∃ k : Nat, i = .int .i64 k ∧ k ≤ qs.length ∧ a = .int .i64 ((hn + 3 + ((qs.take k).map lenP).sum : Nat) : Int) ∧ Fr (fun _ => False) w3 wr) (fun _ i _ => qs.length - (Go.RowKit.intOf i).toNat)
    case atStart => exact ⟨0, rfl, Nat.zero_le _, by simp [H0.out], Fr.refl _ _⟩
    case round =>
      obtain ⟨k, rfl, hk, rfl, hfr⟩ := hrel
      have hsm := HQsum.out k hk
      by_cases hlt : k < qs.length
      · obtain ⟨g, o, hA, hg, hc⟩ := HR.out (by omega)
        have hcell : wr.cell? ⟨g, o + k, none⟩ = some (.string (bs qs[k])) := (hfr.cell (p := ⟨g, o + k, none⟩) hg (fun e => e)).trans (hc k hlt)
        have hpk := HQ5.out qs[k] (List.getElem_mem hlt)
        have hst := sum_take qs k hlt
        obtain ⟨p, hp⟩ : ∃ p, qs[k]'hlt = p := ⟨_, rfl⟩
        rw [hp] at hcell hpk hst
        have hgw : g < wr.heap.size := World.block_lt_of_cell? _ _ hcell
        have HCELL : Hid (∀ W, Fr (fun _ => False) wr W → W.cell? ⟨g, o + k, none⟩ = some (.string (bs p))) := Lib.hid fun W hf => (hf.cell (p := ⟨g, o + k, none⟩) hgw (fun h => h)).trans hcell
        have HCL := Lib.hid (HClAll.out p hpk)
        have hcp := clean_len p
        have hHk : k < 14 := by omega
        have hlp : lenP p = 1 + max (cleanL p).length 1 := rfl
        obtain ⟨q, hq⟩ : ∃ q, cleanL p = q := ⟨_, rfl⟩
        rw [hq] at HCL hcp hlp
        obtain ⟨sm, hsm2⟩ : ∃ sm, ((qs.take k).map lenP).sum = sm := ⟨_, rfl⟩
        rw [hsm2] at hsm hst ⊢
        have HST := Lib.hid (And.intro hst hlp)
        have HFR := Lib.hid hfr
        clear hc hp hq hg hcell hgw hst hsm2 hlp hfr
        subst hA
        go_wp2_with fail
        refine wp_region_held_drew (S := fun W => Fr (fun _ => False) wr W) (by kernel_rfl) (by exact (Fr.refl _ wr).drew) (fun hHeld => ?_)
        refine wpAnyH_read (i := 0) (oi := { dst := some 40, op := Go.Op.move (Go.Operand.tmp 11), type := 3, pos := "ref.go:76", after := #[], guard := none }) ?_ rfl (by kernel_rfl) (by kernel_rfl) (by kernel_rfl) (fun _ _ _ h => h) (by rfl) (by assumption) ?_ ?_
        rotate_left
        · (intro w0 hS0; go_simp <;> (try with_reducible rfl))
        try simp only [Act.put, List.setIfInBounds_toArray, List.set_cons_zero, List.set_cons_succ]
        refine wpAnyH_read (i := 1) (oi := { dst := some 41, op := Go.Op.binOp Go.BinOp.add 3 (Go.Operand.tmp 40) (Go.Operand.const (Go.Value.int Go.IntKind.i64 1)) 3, type := 3, pos := "ref.go:76", after := #[{ on := 0, ground := Go.Ground.data }], guard := none }) ?_ rfl (by kernel_rfl) (by kernel_rfl) (by kernel_rfl) (fun _ _ _ h => h) (by rfl) (by assumption) ?_ ?_
        rotate_left
        · (intro w0 hS0; go_simp <;> (try with_reducible rfl))
        try simp only [Act.put, List.setIfInBounds_toArray, List.set_cons_zero, List.set_cons_succ]
        refine wpAnyH_read (i := 2) (oi := { dst := some 42, op := Go.Op.move (Go.Operand.tmp 13), type := 26, pos := "ref.go:76", after := #[], guard := none }) ?_ rfl (by kernel_rfl) (by kernel_rfl) (by kernel_rfl) (fun _ _ _ h => h) (by rfl) (by assumption) ?_ ?_
        rotate_left
        · (intro w0 hS0; go_simp <;> (try with_reducible rfl))
        try simp only [Act.put, List.setIfInBounds_toArray, List.set_cons_zero, List.set_cons_succ]
        refine wpAnyH_read (i := 3) (oi := { dst := some 43, op := Go.Op.move (Go.Operand.tmp 14), type := 3, pos := "ref.go:76", after := #[], guard := none }) ?_ rfl (by kernel_rfl) (by kernel_rfl) (by kernel_rfl) (fun _ _ _ h => h) (by rfl) (by assumption) ?_ ?_
        rotate_left
        · (intro w0 hS0; go_simp <;> (try with_reducible rfl))
        try simp only [Act.put, List.setIfInBounds_toArray, List.set_cons_zero, List.set_cons_succ]
        refine wpAnyH_read (i := 4) (oi := { dst := some 44, op := Go.Op.indexAddr 26 (Go.Operand.tmp 42) (Go.Operand.tmp 43), type := 0, pos := "ref.go:76", after := #[{ on := 2, ground := Go.Ground.data }, { on := 3, ground := Go.Ground.data }], guard := none }) ?_ rfl (by kernel_rfl) (by kernel_rfl) (by kernel_rfl) (fun _ _ _ h => h) (by rfl) (by assumption) ?_ ?_
        rotate_left
        · (intro w0 hS0; go_simp <;> (try with_reducible rfl))
        try simp only [Act.put, List.setIfInBounds_toArray, List.set_cons_zero, List.set_cons_succ]
        refine wpAnyH_read (i := 6) (oi := { dst := some 46, op := Go.Op.move (Go.Operand.tmp 13), type := 26, pos := "ref.go:76", after := #[], guard := none }) ?_ rfl (by kernel_rfl) (by kernel_rfl) (by kernel_rfl) (fun _ _ _ h => h) (by rfl) (by assumption) ?_ ?_
        rotate_left
        · (intro w0 hS0; go_simp <;> (try with_reducible rfl))
        try simp only [Act.put, List.setIfInBounds_toArray, List.set_cons_zero, List.set_cons_succ]
        refine wpAnyH_read (i := 7) (oi := { dst := some 47, op := Go.Op.move (Go.Operand.tmp 14), type := 3, pos := "ref.go:76", after := #[], guard := none }) ?_ rfl (by kernel_rfl) (by kernel_rfl) (by kernel_rfl) (fun _ _ _ h => h) (by rfl) (by assumption) ?_ ?_
        rotate_left
        · (intro w0 hS0; go_simp <;> (try with_reducible rfl))
        try simp only [Act.put, List.setIfInBounds_toArray, List.set_cons_zero, List.set_cons_succ]
        refine wpAnyH_read (i := 8) (oi := { dst := some 48, op := Go.Op.indexAddr 26 (Go.Operand.tmp 46) (Go.Operand.tmp 47), type := 0, pos := "ref.go:76", after := #[{ on := 6, ground := Go.Ground.data }, { on := 7, ground := Go.Ground.data }], guard := none }) ?_ rfl (by kernel_rfl) (by kernel_rfl) (by kernel_rfl) (fun _ _ _ h => h) (by rfl) (by assumption) ?_ ?_
        rotate_left
        · (intro w0 hS0; go_simp <;> (try with_reducible rfl))
        try simp only [Act.put, List.setIfInBounds_toArray, List.set_cons_zero, List.set_cons_succ]
        refine wpAnyH_read (i := 5) (oi := { dst := some 45, op := Go.Op.load 9 (Go.Operand.tmp 44), type := 9, pos := "ref.go:76", after := #[{ on := 4, ground := Go.Ground.data }], guard := none }) ?_ rfl (by kernel_rfl) (by kernel_rfl) (by kernel_rfl) (fun _ _ _ h => h) (by rfl) (by assumption) ?_ ?_
        rotate_left
        · (intro w0 hS0; have s0 := HCELL.out w0 hS0; go_simp <;> (try with_reducible rfl))
        try simp only [Act.put, List.setIfInBounds_toArray, List.set_cons_zero, List.set_cons_succ]
        refine wpAnyH_read (i := 9) (oi := { dst := some 49, op := Go.Op.load 9 (Go.Operand.tmp 48), type := 9, pos := "ref.go:76", after := #[{ on := 8, ground := Go.Ground.data }], guard := none }) ?_ rfl (by kernel_rfl) (by kernel_rfl) (by kernel_rfl) (fun _ _ _ h => h) (by rfl) (by assumption) ?_ ?_
        rotate_left
        · (intro w0 hS0; have s0 := HCELL.out w0 hS0; go_simp <;> (try with_reducible rfl))
        try simp only [Act.put, List.setIfInBounds_toArray, List.set_cons_zero, List.set_cons_succ]
        refine wpAnyH_read (i := 10) (oi := { dst := some 50, op := Go.Op.call { callee := Go.Callee.builtin Go.Builtin.len, args := #[Go.Operand.tmp 49], argTypes := #[9] }, type := 3, pos := "ref.go:76", after := #[{ on := 9, ground := Go.Ground.data }], guard := none }) ?_ rfl (by kernel_rfl) (by kernel_rfl) (by kernel_rfl) (fun _ _ _ h => h) (by rfl) (by assumption) ?_ ?_
        rotate_left
        · (intro w0 hS0; go_simp <;> (try with_reducible rfl))
        try simp only [Act.put, List.setIfInBounds_toArray, List.set_cons_zero, List.set_cons_succ]
        refine wpAnyH_one (i := 11) (o := { dst := some 51, op := Go.Op.call { callee := Go.Callee.value (Go.Operand.func 49), args := #[Go.Operand.tmp 45, Go.Operand.tmp 50], argTypes := #[9, 3] }, type := 9, pos := "ref.go:76", after := #[{ on := 5, ground := Go.Ground.data }, { on := 10, ground := Go.Ground.data }], guard := none }) (by kernel_rfl) rfl (by rfl) (fun K hK => ?_)
        go_simp
        refine (HCL.out _).mono ?_
        rintro e9 V1 ⟨rfl, rfl⟩
        refine hK.out _ _ ?_ (fun hHeld => ?_)
        · exact (Fr.refl _ wr).drew
        clear hK K
        try simp only [Act.put, List.setIfInBounds_toArray, List.set_cons_zero, List.set_cons_succ]
        refine wpAnyH_read (i := 12) (oi := { dst := some 52, op := Go.Op.call { callee := Go.Callee.builtin Go.Builtin.len, args := #[Go.Operand.tmp 51], argTypes := #[9] }, type := 3, pos := "ref.go:76", after := #[{ on := 11, ground := Go.Ground.data }], guard := none }) ?_ rfl (by kernel_rfl) (by kernel_rfl) (by kernel_rfl) (fun _ _ _ h => h) (by rfl) (by assumption) ?_ ?_
        rotate_left
        · (intro w0 hS0; go_simp <;> (try with_reducible rfl))
        try simp only [Act.put, List.setIfInBounds_toArray, List.set_cons_zero, List.set_cons_succ]
        refine wpAnyH_one (i := 13) (o := { dst := some 53, op := Go.Op.call { callee := Go.Callee.builtin Go.Builtin.max, args := #[Go.Operand.tmp 52, Go.Operand.const (Go.Value.int Go.IntKind.i64 1)], argTypes := #[3, 3] }, type := 3, pos := "ref.go:76", after := #[{ on := 12, ground := Go.Ground.data }], guard := none }) (by kernel_rfl) rfl (by rfl) (fun K hK => ?_)
        go_simp
        refine hK.out _ _ ?_ (fun hHeld => ?_)
        · (first | assumption | trivial)
        clear hK K
        try simp only [Act.put, List.setIfInBounds_toArray, List.set_cons_zero, List.set_cons_succ]
        refine wpAnyH_read (i := 14) (oi := { dst := some 54, op := Go.Op.binOp Go.BinOp.add 3 (Go.Operand.tmp 41) (Go.Operand.tmp 53) 3, type := 3, pos := "ref.go:76", after := #[{ on := 1, ground := Go.Ground.data }, { on := 13, ground := Go.Ground.data }], guard := none }) ?_ rfl (by kernel_rfl) (by kernel_rfl) (by kernel_rfl) (fun _ _ _ h => h) (by rfl) (by assumption) ?_ ?_
        rotate_left
        · (intro w0 hS0; go_simp <;> (try with_reducible rfl))
        try simp only [Act.put, List.setIfInBounds_toArray, List.set_cons_zero, List.set_cons_succ]
        refine wpAnyH_read (i := 15) (oi := { dst := some 11, op := Go.Op.assign (Go.Operand.tmp 54), type := 3, pos := "ref.go:76", after := #[{ on := 14, ground := Go.Ground.data }, { on := 11, ground := Go.Ground.chain }, { on := 0, ground := Go.Ground.phase }, { on := 1, ground := Go.Ground.phase }, { on := 2, ground := Go.Ground.phase }, { on := 3, ground := Go.Ground.phase }, { on := 4, ground := Go.Ground.phase }, { on := 5, ground := Go.Ground.phase }, { on := 6, ground := Go.Ground.phase }, { on := 7, ground := Go.Ground.phase }, { on := 8, ground := Go.Ground.phase }, { on := 9, ground := Go.Ground.phase }, { on := 10, ground := Go.Ground.phase }, { on := 11, ground := Go.Ground.phase }, { on := 12, ground := Go.Ground.phase }, { on := 13, ground := Go.Ground.phase }, { on := 14, ground := Go.Ground.phase }], guard := none }) ?_ rfl (by kernel_rfl) (by kernel_rfl) (by kernel_rfl) (fun _ _ _ h => h) (by rfl) (by assumption) ?_ ?_
        rotate_left
        · (intro w0 hS0; go_simp <;> (try with_reducible rfl))
        try simp only [Act.put, List.setIfInBounds_toArray, List.set_cons_zero, List.set_cons_succ]
        refine wpAnyH_done (by kernel_rfl) ?_ _
        obtain ⟨w9, hw9⟩ : ∃ W, wr.drew = W := ⟨_, rfl⟩
        have HF9 : Hid (Fr (fun _ => False) w3 w9) := Lib.hid (by rw [← hw9]; exact HFR.out.drew)
        rw [hw9]
        clear hw9
        go_wp2_with fail
        go_roundw
        case rel =>
          refine ⟨k + 1, by go_num, by omega, ?_, HF9.out⟩
          rw [HST.out.1, HST.out.2]
          refine congrArg (Value.int .i64) ?_
          rw [wrapI (x := (hn : Int) + 3 + sm + 1) (by omega) (by omega), wrapI (by omega) (by omega)]
          push_cast
          omega
        case measure => simp [Go.RowKit.intOf]; omega
      · obtain rfl : k = qs.length := by omega
        rw [List.take_length] at hsm ⊢
        obtain ⟨sm, hsm2⟩ : ∃ sm, (qs.map lenP).sum = sm := ⟨_, rfl⟩
        rw [hsm2] at hsm ⊢
        have HSM := Lib.hid hsm2
        have HFR := Lib.hid hfr
        clear hsm2 hfr
        go_wp2_with fail
        go_ret
        refine ⟨?_, HB.out.trans ((fr_below_no HFR.out).mono HB.out.size)⟩
        rw [HL.out, HSM.out]
        refine congrArg (fun x => Ending.returned (Value.int .i64 x)) ?_
        first | omega | (push_cast; omega)
end Go.Proofs.YtkbgpajconhgjaaGreatDoor
end
section
/- Regions that draw their order, whose last operation is a store: two operations may come up. -/
namespace Go.Proofs.YtkbgpajconhgjaaGreatDoor
open Go Go.RowKit
section
variable {P : Program} {md : Region.Mode} {ops : Array Oper} {Q : Exit → Act → World → Prop} {S : World → Prop} {z : Nat}
theorem wpAnyZ_two {i j : Nat} {o o2 : Oper} {fuel : Nat} {listed : Array Bool} {a : Act} {w : World} (hr : Region.ready md ops listed = [i, j]) (ho : ops[i]? = some o) (ho2 : ops[j]? = some o2)
    (hw : Region.wanted o (yielded ops a.tmps) = true) (hw2 : Region.wanted o2 (yielded ops a.tmps) = true)
    (h : ∀ K' : Act → World → Prop, Shut (∀ a w, S w → (S w → wpAnyZ P md ops Q S z fuel (listed.setIfInBounds i true) a w) → K' a w) → Oper.wp P o a w K' Q)
    (h2 : ∀ K' : Act → World → Prop, Shut (∀ a w, S w → (S w → wpAnyZ P md ops Q S z fuel (listed.setIfInBounds j true) a w) → K' a w) → Oper.wp P o2 a w K' Q) : wpAnyZ P md ops Q S z (fuel + 1) listed a w :=
  ⟨fun h0 => absurd (hr ▸ h0) (by simp), by
    rw [hr]
    intro k hk
    rcases List.mem_cons.1 hk with rfl | hk
    · exact wpOp_step ho fun K' hK => by rw [if_pos hw]; exact h K' fun a w hS hW => hK a w ⟨fun _ => hS, hW hS⟩
    · obtain rfl := List.mem_singleton.1 hk
      exact wpOp_step ho2 fun K' hK => by rw [if_pos hw2]; exact h2 K' fun a w hS hW => hK a w ⟨fun _ => hS, hW hS⟩⟩
end
end Go.Proofs.YtkbgpajconhgjaaGreatDoor
end
