/- Layer 18: the answers' Text. -/
import Derived.Test.YtbpnaclnninndaaModeT
import Derived.Deep.RegionWith
namespace Go.Proofs.Ytbpnaclnninndaa
set_option linter.unusedVariables false
set_option linter.unusedSimpArgs false
open Go.RowKit Go.Shelf

theorem conv_1 {P : Program} (W : World) (src dst e : TypeId) (b : UInt8) (hs : P.underlying src = some (.slice e)) (he : P.underlying e = some (.int .u8)) (hd : P.underlying dst = some .string) :
    (convert src dst (.slice (some ⟨W.heap.size, 0, none⟩) 1 1)).run P (W.alloc (.cells #[.int .u8 b.toNat] e)) = .ok (.string (bs [b])) (W.alloc (.cells #[.int .u8 b.toNat] e)) :=
  run_convert_bytes_back (W.alloc (.cells #[.int .u8 b.toNat] e)) src dst e ⟨W.heap.size, 0, none⟩ 1 [b] hs he hd fun j hj => by
    simp at hj
    subst hj
    simp [Addr.add]
theorem bs_app (a b : List UInt8) : bs a ++ bs b = bs (a ++ b) := by
  apply ba_ext
  simp [bs]
/-- the sign that stands last, as a text -/
def sgB : Option Bool → ByteArray
  | none => ⟨#[]⟩
  | some true => ⟨#[43]⟩
  | some false => ⟨#[45]⟩
theorem sgB_cmp (p : Option Bool) (on : Bool) : ((sgB (some on)).toList == (sgB p).toList) = decide (p = some on) := by
  rw [beq_ba]
  rcases p with _ | _ | _ <;> cases on <;> decide

/-- the row and the arguments lie in one slice -/
def StR (w W : World) (R : List UInt8) (T : List ByteArray) (gb cap : Nat) : Prop :=
  W.ownsRow w.heap.size 9 1 (.slice (some ⟨gb, 0, none⟩) (T.length + 1) cap) (T.length + 1) (.string (bs R) :: T.map .string) ∧ Below w.heap.size w W ∧ w.heap.size ≤ W.heap.size
section
variable {w W : World} {R : List UInt8} {T : List ByteArray} {gb cap : Nat}
theorem StR.alloc (h : StR w W R T gb cap) (o : Obj) : StR w (W.alloc o) R T gb cap := ⟨h.1.alloc o, h.2.1.alloc h.2.2 o, by rw [World.size_alloc]; have := h.2.2; omega⟩
theorem StR.drew (h : StR w W R T gb cap) : StR w W.drew R T gb cap := ⟨h.1, h.2.1.drew, h.2.2⟩
theorem StR.drewN (h : StR w W R T gb cap) (n : Nat) : StR w (W.drewN n) R T gb cap := ⟨h.1, below_dn' h.2.1 n, h.2.2⟩
theorem StR.cell (h : StR w W R T gb cap) : W.cell? ⟨gb, 0, none⟩ = some (.string (bs R)) := (h.1.cellAt 0 (by omega)).trans rfl
theorem StR.frozen (h : StR w W R T gb cap) : W.frozen? ⟨gb, 0, none⟩ = false := h.1.frozenAt 0
theorem StR.lt (h : StR w W R T gb cap) : w.heap.size ≤ gb ∧ gb < W.heap.size := h.1.lt gb rfl
theorem StR.store (h : StR w W R T gb cap) (R' : List UInt8) : StR w (W.setCell ⟨gb, 0, none⟩ (.string (bs R'))) R' T gb cap :=
  ⟨(h.1.stored 0 (.string (bs R'))).1, h.2.1.setCell (p := ⟨gb, 0, none⟩) h.lt.1 _, by have := (h.1.stored 0 (.string (bs R'))).2.size; exact Nat.le_trans h.2.2 this⟩
end
theorem wpList_out {W w : World} {ops : Array Oper} {rest : List Oper} {o : Oper} {a : Act} {Q : Exit → Act → World → Prop} (hgd : o.guard = none) (s x : Operand)
    (ho : o.op = .call { callee := .builtin .append, args := #[s, x], argTypes := #[22, 22] })
    (R : List UInt8) (T : List ByteArray) (gb cap : Nat) (hS : StR w W R T gb cap) (hs : a.eval s = .slice (some ⟨gb, 0, none⟩) (T.length + 1) cap) (M : Nat) (hM : W.heap.size = M) (hx : a.eval x = .slice (some ⟨M, 0, none⟩) 1 1) (b : ByteArray) (hT : T.length ≤ 1000000)
    (h : ∀ gb' cap' W', StR w W' R (T ++ [b]) gb' cap' → wpList Try.prog ops Q rest (a.put o.dst (.slice (some ⟨gb', 0, none⟩) ((T ++ [b]).length + 1) cap')) W') : wpList Try.prog ops Q (o :: rest) a (W.alloc (.cells #[.string b] 9)) := by
  subst hM
  obtain ⟨i0, hi, hz0, hz1, hz2⟩ := info_parts Try.infoStr
  refine wpList_append_own _ hgd s x 22 ho w.heap.size 9 i0 _ 1 16 Try.underlying22 hi hz0 hz1 hz2 rfl (by decide) _ (T.length + 1) _ hs (hS.1.alloc _) ⟨W.heap.size, 0, none⟩ 1 1 [.string b] hx (by simp) (cells_new W _ _) (by intro u hu; simp at hu; subst hu; rfl)
    (by unfold maxLen; omega) (by omega) (by rw [World.size_alloc]; have := hS.2.2; omega) ?_
  intro v W' hown hg _
  have h0 := hS.alloc (.cells #[.string b] 9)
  have hb := h0.2.1.grown hg h0.2.2 (fun k hk => (h0.1.lt k hk).1)
  have hsz := Nat.le_trans h0.2.2 hg.size
  rcases hown.2 with ⟨_, hn⟩ | ⟨g', cap', cur, rfl, _⟩
  · omega
  · have e : (T ++ [b]).length + 1 = T.length + 1 + 1 := by simp
    have := h g' cap' W' ⟨by rw [e]; simpa using hown, hb, hsz⟩
    rw [e] at this
    exact this

theorem textr_zero (A : Option Addr) (c : Nat) (w : World) :
    Calls Try.prog 17 #[.slice A 0 c] w (TextTo w []) := by
  have h : Calls Try.prog 17 #[.slice A 0 c] w fun e w' => e = .returned (.slice none 0 0) ∧ w = w' := by
    go_enter Try.func17, Try.ntmps17
    go_wp2_with fail
    go_ret
    exact ⟨rfl, rfl⟩
  exact h.mono fun e w' ⟨he, hw⟩ => ⟨none, 0, he, Nat.le_refl _, fun h => absurd h (by decide), by rw [← hw]; exact Below.refl _ _⟩

def DoneR (w : World) (l : List Chg) (k gb cap : Nat) (v sg : Value) (W : World) : Prop :=
  v = .slice (some ⟨gb, 0, none⟩) ((textS (l.take k)).2.1.length + 1) cap ∧ sg = .string (sgB (textS (l.take k)).2.2) ∧ StR w W (textS (l.take k)).1 (textS (l.take k)).2.1 gb cap
theorem doner_mk {w W : World} {l : List Chg} {k gb cap n : Nat} {R : List UInt8} {T T' : List ByteArray} {p : Option Bool} {on : Bool} {ch : UInt8} {ag : ByteArray} {sg : List UInt8} (hst : textS (l.take (k + 1)) = stepT (R, T, p) (on, ch, ag))
    (e1 : (if p = some on then [] else [sgn on]) = sg) (e2 : (if takesB ch on = true then T ++ [ag] else T) = T') (h : StR w W (R ++ sg ++ [ch]) T' gb cap) (hn : T'.length + 1 = n) : DoneR w l (k + 1) gb cap (.slice (some ⟨gb, 0, none⟩) n cap) (.string (sgB (some on))) W := by
  subst hn
  unfold DoneR
  rw [hst]
  show (_ = Value.slice (some ⟨gb, 0, none⟩) ((if takesB ch on = true then T ++ [ag] else T).length + 1) cap) ∧ _ ∧ StR w W (R ++ (if p = some on then [] else [sgn on]) ++ [ch]) (if takesB ch on = true then T ++ [ag] else T) gb cap
  rw [e1, e2]
  exact ⟨rfl, rfl, h⟩

set_option maxRecDepth 100000 in
set_option maxHeartbeats 4000000 in
theorem text_r (A : Option Addr) (l : List Chg) (c : Nat) (w : World) (hl : l.length ≤ 100000) (hr : RowC w A l) :
    Calls Try.prog 17 #[.slice A l.length c] w (TextTo w l) := by
  by_cases hne : 0 < l.length
  · obtain ⟨g, o, rfl, hcell⟩ := hr hne
    have HC := Lib.hid hcell
    have hg := lt_of_cell (hcell 0 hne).1
    have hz : ((l.length : Int) == 0) = false := by rw [beq_eq_false_iff_ne]; omega
    clear hcell hr
    go_enter Try.func17, Try.ntmps17
    go_wp2_with fail
    go_loopw [3, 4, 5] (fun v sg i wr => ∃ k gb cap : Nat, i = .int .i64 k ∧ k ≤ l.length ∧ DoneR w l k gb cap v sg wr) (fun _ _ i _ => l.length - (intOf i).toNat)
    case atStart => exact ⟨0, w.heap.size, 1, rfl, Nat.zero_le _, rfl, rfl, World.ownsRow_lit w #[.string ⟨#[]⟩] 1 (Nat.le_refl _) (by decide) (by simp), (Below.refl _ w).alloc (Nat.le_refl _) _, by simp⟩
    case round =>
      obtain ⟨k, gb, cap, rfl, hk, HD⟩ := hrel
      unfold DoneR at HD
      by_cases hlt : k < l.length
      · have hstep := textS_take l k hlt
        have hlen := textS_len (l.take k)
        have hlk : (l.take k).length ≤ 100000 := by rw [List.length_take]; omega
        have hcx := HC.out k hlt
        obtain ⟨⟨on, ch, ag⟩, hx⟩ : ∃ x, l[k] = x := ⟨_, rfl⟩
        rw [hx] at hstep hcx
        obtain ⟨⟨R, T, p⟩, hst⟩ : ∃ x, textS (l.take k) = x := ⟨_, rfl⟩
        rw [hst] at hstep HD hlen
        simp only at hcx HD hlen
        obtain ⟨rfl, rfl, hS⟩ := HD
        have HST := Lib.hid hstep
        have hR : R.length ≤ 200000 := by omega
        have hT : T.length ≤ 1000000 := by omega
        have HX := Lib.hid hcx
        have cells : ∀ W, Below w.heap.size w W → W.cell? ⟨g, o + k * 3, none⟩ = some (.bool on) ∧ W.cell? ⟨g, o + k * 3 + 1, none⟩ = some (.int .u8 ch.toNat) ∧ W.cell? ⟨g, o + k * 3 + 2, none⟩ = some (.string ag) := fun W hB => by
          rw [hB.cell (p := ⟨g, o + k * 3, none⟩) hg, hB.cell (p := ⟨g, o + k * 3 + 1, none⟩) hg, hB.cell (p := ⟨g, o + k * 3 + 2, none⟩) hg]; exact HX.out
        have HCL := Lib.hid cells
        obtain ⟨c0, c1, c2⟩ := cells wr hS.2.1
        clear hx hst hstep hlen hlk hcx cells
        have ht : ∀ W, Calls Try.prog 13 #[.int .u8 ↑ch.toNat, .bool on] W fun e w' => e = .returned (.bool (takesB ch on)) ∧ W = w' := fun W => takes_r _ _ W
        have hp1 : (k : Int) < (l.length : Int) := by omega
        have hcmp := sgB_cmp p on
        have e0 := hS.cell
        have ef := hS.frozen
        have hlt2 := hS.lt
        have hwg : g < wr.heap.size := by omega
        cases hd : decide (p = some on)
        · rw [hd] at hcmp
          have HDD := Lib.hid hd
          clear hd
          cases on
          · have q1 : (([45] : List UInt8) == (sgB p).toList) = false := by rw [← hcmp, ByteArray.toList_eq (sgB (some false))]; rfl
            have q2 : (([45] : List UInt8) != (sgB p).toList) = true := by rw [bne, q1]; rfl
            have q3 : (!(([45] : List UInt8) == (sgB p).toList)) = true := by rw [q1]; rfl
            clear hcmp
            cases htk : takesB ch false
            · rw [htk] at ht
              have HT := Lib.hid htk
              clear htk
              obtain ⟨R1, hR1⟩ : ∃ R1, R ++ [sgn false] = R1 := ⟨_, rfl⟩
              have hb1 : bs R ++ ⟨#[45]⟩ = bs R1 := (bs_app R [sgn false]).trans (by rw [hR1])
              have hl1 : R1.length ≤ 200001 := by rw [← hR1]; simp; omega
              have HR1 := Lib.hid hR1
              clear hR1
              have hS1 := hS.store R1
              obtain ⟨W1, hW1⟩ : ∃ W1, wr.setCell ⟨gb, 0, none⟩ (.string (bs R1)) = W1 := ⟨_, rfl⟩
              rw [hW1] at hS1
              have g0 := hS1.cell; have gf := hS1.frozen
              obtain ⟨g1, g2, g3⟩ := HCL.out W1 hS1.2.1
              obtain ⟨R2, hR2⟩ : ∃ R2, R1 ++ [ch] = R2 := ⟨_, rfl⟩
              have HR2 := Lib.hid hR2
              have hSA := hS1.drew
              obtain ⟨WA, hWA⟩ : ∃ WA, W1.drew = WA := ⟨_, rfl⟩
              rw [hWA] at hSA
              have a0 := hSA.cell; have af := hSA.frozen
              obtain ⟨a1, a2, a3⟩ := HCL.out WA hSA.2.1
              have hSB := hSA.alloc (.cells #[.int .u8 ch.toNat] 5)
              have b0 := hSB.cell; have bf := hSB.frozen
              obtain ⟨b1, b2, b3⟩ := HCL.out _ hSB.2.1
              have hconv := conv_1 (P := Try.prog) WA 39 9 5 ch Try.underlying39 Try.underlying5 Try.underlying9
              have hb2 : bs R1 ++ bs [ch] = bs R2 := (bs_app _ _).trans (by rw [hR2])
              have hS3 := hSB.store R2
              obtain ⟨W3, hW3⟩ : ∃ W3, (WA.alloc (.cells #[.int .u8 ch.toNat] 5)).setCell ⟨gb, 0, none⟩ (.string (bs R2)) = W3 := ⟨_, rfl⟩
              rw [hW3] at hS3
              have z3 := hS3.lt
              obtain ⟨d1, d2, d3⟩ := HCL.out W3 hS3.2.1
              have hz1 : (bs R).size ≤ 1000000 := by simp; omega
              have hz2 : (bs R1).size ≤ 1000000 := by simp; omega
              clear hR2
              go_wp2_with fail
              go_region_with (fail)
              all_goals go_wp2_with fail
              all_goals go_quiet ((go_at_call 13; exact Calls.quiet_of_same ((ht _).mono fun e w' h => ⟨h.1, h.2.symm⟩)))
              all_goals go_wp2_with fail
              all_goals
                go_roundw
                case rel => exact ⟨k + 1, gb, cap, by go_num, by omega, doner_mk (sg := [sgn false]) HST.out (by rw [if_neg (by have := HDD.out; simpa using this)]) (by rw [HT.out]; first | done | rfl) ((show R2 = R ++ [sgn false] ++ [ch] by rw [HR1.out, HR2.out]) ▸ hS3.drewN _) (by simp)⟩
                case measure => simp [intOf]; omega
            · rw [htk] at ht
              have HT := Lib.hid htk
              clear htk
              obtain ⟨R1, hR1⟩ : ∃ R1, R ++ [sgn false] = R1 := ⟨_, rfl⟩
              have hb1 : bs R ++ ⟨#[45]⟩ = bs R1 := (bs_app R [sgn false]).trans (by rw [hR1])
              have hl1 : R1.length ≤ 200001 := by rw [← hR1]; simp; omega
              have HR1 := Lib.hid hR1
              clear hR1
              have hS1 := hS.store R1
              obtain ⟨W1, hW1⟩ : ∃ W1, wr.setCell ⟨gb, 0, none⟩ (.string (bs R1)) = W1 := ⟨_, rfl⟩
              rw [hW1] at hS1
              have g0 := hS1.cell; have gf := hS1.frozen
              obtain ⟨g1, g2, g3⟩ := HCL.out W1 hS1.2.1
              obtain ⟨R2, hR2⟩ : ∃ R2, R1 ++ [ch] = R2 := ⟨_, rfl⟩
              have HR2 := Lib.hid hR2
              have hSA := hS1.drew
              obtain ⟨WA, hWA⟩ : ∃ WA, W1.drew = WA := ⟨_, rfl⟩
              rw [hWA] at hSA
              have a0 := hSA.cell; have af := hSA.frozen
              obtain ⟨a1, a2, a3⟩ := HCL.out WA hSA.2.1
              have hSB := hSA.alloc (.cells #[.int .u8 ch.toNat] 5)
              have b0 := hSB.cell; have bf := hSB.frozen
              obtain ⟨b1, b2, b3⟩ := HCL.out _ hSB.2.1
              have hconv := conv_1 (P := Try.prog) WA 39 9 5 ch Try.underlying39 Try.underlying5 Try.underlying9
              have hb2 : bs R1 ++ bs [ch] = bs R2 := (bs_app _ _).trans (by rw [hR2])
              have hS3 := hSB.store R2
              obtain ⟨W3, hW3⟩ : ∃ W3, (WA.alloc (.cells #[.int .u8 ch.toNat] 5)).setCell ⟨gb, 0, none⟩ (.string (bs R2)) = W3 := ⟨_, rfl⟩
              rw [hW3] at hS3
              have z3 := hS3.lt
              obtain ⟨d1, d2, d3⟩ := HCL.out W3 hS3.2.1
              have hz1 : (bs R).size ≤ 1000000 := by simp; omega
              have hz2 : (bs R1).size ≤ 1000000 := by simp; omega
              clear hR2
              go_wp2_with fail
              go_region_with (fail)
              all_goals go_wp2_with fail
              all_goals go_quiet ((go_at_call 13; exact Calls.quiet_of_same ((ht _).mono fun e w' h => ⟨h.1, h.2.symm⟩)))
              all_goals go_wp2_with (at_builtin; refine wpList_out rfl _ _ rfl _ T gb cap (hS3.drewN _) rfl _ rfl rfl ag hT ?_; intro gb4 cap4 W4 S4)
              all_goals
                go_roundw
                case rel => exact ⟨k + 1, gb4, cap4, by go_num, by omega, doner_mk (sg := [sgn false]) HST.out (by rw [if_neg (by have := HDD.out; simpa using this)]) (by rw [HT.out]; first | done | rfl) ((show R2 = R ++ [sgn false] ++ [ch] by rw [HR1.out, HR2.out]) ▸ S4) (by simp)⟩
                case measure => simp [intOf]; omega
          · have q1 : (([43] : List UInt8) == (sgB p).toList) = false := by rw [← hcmp, ByteArray.toList_eq (sgB (some true))]; rfl
            have q2 : (([43] : List UInt8) != (sgB p).toList) = true := by rw [bne, q1]; rfl
            have q3 : (!(([43] : List UInt8) == (sgB p).toList)) = true := by rw [q1]; rfl
            clear hcmp
            cases htk : takesB ch true
            · rw [htk] at ht
              have HT := Lib.hid htk
              clear htk
              obtain ⟨R1, hR1⟩ : ∃ R1, R ++ [sgn true] = R1 := ⟨_, rfl⟩
              have hb1 : bs R ++ ⟨#[43]⟩ = bs R1 := (bs_app R [sgn true]).trans (by rw [hR1])
              have hl1 : R1.length ≤ 200001 := by rw [← hR1]; simp; omega
              have HR1 := Lib.hid hR1
              clear hR1
              have hS1 := hS.store R1
              obtain ⟨W1, hW1⟩ : ∃ W1, wr.setCell ⟨gb, 0, none⟩ (.string (bs R1)) = W1 := ⟨_, rfl⟩
              rw [hW1] at hS1
              have g0 := hS1.cell; have gf := hS1.frozen
              obtain ⟨g1, g2, g3⟩ := HCL.out W1 hS1.2.1
              obtain ⟨R2, hR2⟩ : ∃ R2, R1 ++ [ch] = R2 := ⟨_, rfl⟩
              have HR2 := Lib.hid hR2
              have hSA := hS1.drew
              obtain ⟨WA, hWA⟩ : ∃ WA, W1.drew = WA := ⟨_, rfl⟩
              rw [hWA] at hSA
              have a0 := hSA.cell; have af := hSA.frozen
              obtain ⟨a1, a2, a3⟩ := HCL.out WA hSA.2.1
              have hSB := hSA.alloc (.cells #[.int .u8 ch.toNat] 5)
              have b0 := hSB.cell; have bf := hSB.frozen
              obtain ⟨b1, b2, b3⟩ := HCL.out _ hSB.2.1
              have hconv := conv_1 (P := Try.prog) WA 39 9 5 ch Try.underlying39 Try.underlying5 Try.underlying9
              have hb2 : bs R1 ++ bs [ch] = bs R2 := (bs_app _ _).trans (by rw [hR2])
              have hS3 := hSB.store R2
              obtain ⟨W3, hW3⟩ : ∃ W3, (WA.alloc (.cells #[.int .u8 ch.toNat] 5)).setCell ⟨gb, 0, none⟩ (.string (bs R2)) = W3 := ⟨_, rfl⟩
              rw [hW3] at hS3
              have z3 := hS3.lt
              obtain ⟨d1, d2, d3⟩ := HCL.out W3 hS3.2.1
              have hz1 : (bs R).size ≤ 1000000 := by simp; omega
              have hz2 : (bs R1).size ≤ 1000000 := by simp; omega
              clear hR2
              go_wp2_with fail
              go_region_with (fail)
              all_goals go_wp2_with fail
              all_goals go_quiet ((go_at_call 13; exact Calls.quiet_of_same ((ht _).mono fun e w' h => ⟨h.1, h.2.symm⟩)))
              all_goals go_wp2_with fail
              all_goals
                go_roundw
                case rel => exact ⟨k + 1, gb, cap, by go_num, by omega, doner_mk (sg := [sgn true]) HST.out (by rw [if_neg (by have := HDD.out; simpa using this)]) (by rw [HT.out]; first | done | rfl) ((show R2 = R ++ [sgn true] ++ [ch] by rw [HR1.out, HR2.out]) ▸ hS3.drewN _) (by simp)⟩
                case measure => simp [intOf]; omega
            · rw [htk] at ht
              have HT := Lib.hid htk
              clear htk
              obtain ⟨R1, hR1⟩ : ∃ R1, R ++ [sgn true] = R1 := ⟨_, rfl⟩
              have hb1 : bs R ++ ⟨#[43]⟩ = bs R1 := (bs_app R [sgn true]).trans (by rw [hR1])
              have hl1 : R1.length ≤ 200001 := by rw [← hR1]; simp; omega
              have HR1 := Lib.hid hR1
              clear hR1
              have hS1 := hS.store R1
              obtain ⟨W1, hW1⟩ : ∃ W1, wr.setCell ⟨gb, 0, none⟩ (.string (bs R1)) = W1 := ⟨_, rfl⟩
              rw [hW1] at hS1
              have g0 := hS1.cell; have gf := hS1.frozen
              obtain ⟨g1, g2, g3⟩ := HCL.out W1 hS1.2.1
              obtain ⟨R2, hR2⟩ : ∃ R2, R1 ++ [ch] = R2 := ⟨_, rfl⟩
              have HR2 := Lib.hid hR2
              have hSA := hS1.drew
              obtain ⟨WA, hWA⟩ : ∃ WA, W1.drew = WA := ⟨_, rfl⟩
              rw [hWA] at hSA
              have a0 := hSA.cell; have af := hSA.frozen
              obtain ⟨a1, a2, a3⟩ := HCL.out WA hSA.2.1
              have hSB := hSA.alloc (.cells #[.int .u8 ch.toNat] 5)
              have b0 := hSB.cell; have bf := hSB.frozen
              obtain ⟨b1, b2, b3⟩ := HCL.out _ hSB.2.1
              have hconv := conv_1 (P := Try.prog) WA 39 9 5 ch Try.underlying39 Try.underlying5 Try.underlying9
              have hb2 : bs R1 ++ bs [ch] = bs R2 := (bs_app _ _).trans (by rw [hR2])
              have hS3 := hSB.store R2
              obtain ⟨W3, hW3⟩ : ∃ W3, (WA.alloc (.cells #[.int .u8 ch.toNat] 5)).setCell ⟨gb, 0, none⟩ (.string (bs R2)) = W3 := ⟨_, rfl⟩
              rw [hW3] at hS3
              have z3 := hS3.lt
              obtain ⟨d1, d2, d3⟩ := HCL.out W3 hS3.2.1
              have hz1 : (bs R).size ≤ 1000000 := by simp; omega
              have hz2 : (bs R1).size ≤ 1000000 := by simp; omega
              clear hR2
              go_wp2_with fail
              go_region_with (fail)
              all_goals go_wp2_with fail
              all_goals go_quiet ((go_at_call 13; exact Calls.quiet_of_same ((ht _).mono fun e w' h => ⟨h.1, h.2.symm⟩)))
              all_goals go_wp2_with (at_builtin; refine wpList_out rfl _ _ rfl _ T gb cap (hS3.drewN _) rfl _ rfl rfl ag hT ?_; intro gb4 cap4 W4 S4)
              all_goals
                go_roundw
                case rel => exact ⟨k + 1, gb4, cap4, by go_num, by omega, doner_mk (sg := [sgn true]) HST.out (by rw [if_neg (by have := HDD.out; simpa using this)]) (by rw [HT.out]; first | done | rfl) ((show R2 = R ++ [sgn true] ++ [ch] by rw [HR1.out, HR2.out]) ▸ S4) (by simp)⟩
                case measure => simp [intOf]; omega
        · rw [hd] at hcmp
          have HDD := Lib.hid hd
          clear hd
          cases on
          · have q1 : (([45] : List UInt8) == (sgB p).toList) = true := by rw [← hcmp, ByteArray.toList_eq (sgB (some false))]; rfl
            have q2 : (([45] : List UInt8) != (sgB p).toList) = false := by rw [bne, q1]; rfl
            have q3 : (!(([45] : List UInt8) == (sgB p).toList)) = false := by rw [q1]; rfl
            clear hcmp
            cases htk : takesB ch false
            · rw [htk] at ht
              have HT := Lib.hid htk
              clear htk
              obtain ⟨R2, hR2⟩ : ∃ R2, R ++ [ch] = R2 := ⟨_, rfl⟩
              have HR2 := Lib.hid hR2
              have hSA := hS.drew
              obtain ⟨WA, hWA⟩ : ∃ WA, wr.drew = WA := ⟨_, rfl⟩
              rw [hWA] at hSA
              have a0 := hSA.cell; have af := hSA.frozen
              obtain ⟨a1, a2, a3⟩ := HCL.out WA hSA.2.1
              have hSB := hSA.alloc (.cells #[.int .u8 ch.toNat] 5)
              have b0 := hSB.cell; have bf := hSB.frozen
              obtain ⟨b1, b2, b3⟩ := HCL.out _ hSB.2.1
              have hconv := conv_1 (P := Try.prog) WA 39 9 5 ch Try.underlying39 Try.underlying5 Try.underlying9
              have hb2 : bs R ++ bs [ch] = bs R2 := (bs_app _ _).trans (by rw [hR2])
              have hS3 := hSB.store R2
              obtain ⟨W3, hW3⟩ : ∃ W3, (WA.alloc (.cells #[.int .u8 ch.toNat] 5)).setCell ⟨gb, 0, none⟩ (.string (bs R2)) = W3 := ⟨_, rfl⟩
              rw [hW3] at hS3
              have z3 := hS3.lt
              obtain ⟨d1, d2, d3⟩ := HCL.out W3 hS3.2.1
              have hz1 : (bs R).size ≤ 1000000 := by simp; omega
              clear hR2
              go_wp2_with fail
              go_region_with (fail)
              all_goals go_wp2_with fail
              all_goals go_quiet ((go_at_call 13; exact Calls.quiet_of_same ((ht _).mono fun e w' h => ⟨h.1, h.2.symm⟩)))
              all_goals go_wp2_with fail
              all_goals
                go_roundw
                case rel => exact ⟨k + 1, gb, cap, by go_num, by omega, doner_mk (sg := []) HST.out (by rw [if_pos (by have := HDD.out; simpa using this)]) (by rw [HT.out]; first | done | rfl) ((show R2 = R ++ [] ++ [ch] by rw [List.append_nil, HR2.out]) ▸ hS3.drewN _) (by simp)⟩
                case measure => simp [intOf]; omega
            · rw [htk] at ht
              have HT := Lib.hid htk
              clear htk
              obtain ⟨R2, hR2⟩ : ∃ R2, R ++ [ch] = R2 := ⟨_, rfl⟩
              have HR2 := Lib.hid hR2
              have hSA := hS.drew
              obtain ⟨WA, hWA⟩ : ∃ WA, wr.drew = WA := ⟨_, rfl⟩
              rw [hWA] at hSA
              have a0 := hSA.cell; have af := hSA.frozen
              obtain ⟨a1, a2, a3⟩ := HCL.out WA hSA.2.1
              have hSB := hSA.alloc (.cells #[.int .u8 ch.toNat] 5)
              have b0 := hSB.cell; have bf := hSB.frozen
              obtain ⟨b1, b2, b3⟩ := HCL.out _ hSB.2.1
              have hconv := conv_1 (P := Try.prog) WA 39 9 5 ch Try.underlying39 Try.underlying5 Try.underlying9
              have hb2 : bs R ++ bs [ch] = bs R2 := (bs_app _ _).trans (by rw [hR2])
              have hS3 := hSB.store R2
              obtain ⟨W3, hW3⟩ : ∃ W3, (WA.alloc (.cells #[.int .u8 ch.toNat] 5)).setCell ⟨gb, 0, none⟩ (.string (bs R2)) = W3 := ⟨_, rfl⟩
              rw [hW3] at hS3
              have z3 := hS3.lt
              obtain ⟨d1, d2, d3⟩ := HCL.out W3 hS3.2.1
              have hz1 : (bs R).size ≤ 1000000 := by simp; omega
              clear hR2
              go_wp2_with fail
              go_region_with (fail)
              all_goals go_wp2_with fail
              all_goals go_quiet ((go_at_call 13; exact Calls.quiet_of_same ((ht _).mono fun e w' h => ⟨h.1, h.2.symm⟩)))
              all_goals go_wp2_with (at_builtin; refine wpList_out rfl _ _ rfl _ T gb cap (hS3.drewN _) rfl _ rfl rfl ag hT ?_; intro gb4 cap4 W4 S4)
              all_goals
                go_roundw
                case rel => exact ⟨k + 1, gb4, cap4, by go_num, by omega, doner_mk (sg := []) HST.out (by rw [if_pos (by have := HDD.out; simpa using this)]) (by rw [HT.out]; first | done | rfl) ((show R2 = R ++ [] ++ [ch] by rw [List.append_nil, HR2.out]) ▸ S4) (by simp)⟩
                case measure => simp [intOf]; omega
          · have q1 : (([43] : List UInt8) == (sgB p).toList) = true := by rw [← hcmp, ByteArray.toList_eq (sgB (some true))]; rfl
            have q2 : (([43] : List UInt8) != (sgB p).toList) = false := by rw [bne, q1]; rfl
            have q3 : (!(([43] : List UInt8) == (sgB p).toList)) = false := by rw [q1]; rfl
            clear hcmp
            cases htk : takesB ch true
            · rw [htk] at ht
              have HT := Lib.hid htk
              clear htk
              obtain ⟨R2, hR2⟩ : ∃ R2, R ++ [ch] = R2 := ⟨_, rfl⟩
              have HR2 := Lib.hid hR2
              have hSA := hS.drew
              obtain ⟨WA, hWA⟩ : ∃ WA, wr.drew = WA := ⟨_, rfl⟩
              rw [hWA] at hSA
              have a0 := hSA.cell; have af := hSA.frozen
              obtain ⟨a1, a2, a3⟩ := HCL.out WA hSA.2.1
              have hSB := hSA.alloc (.cells #[.int .u8 ch.toNat] 5)
              have b0 := hSB.cell; have bf := hSB.frozen
              obtain ⟨b1, b2, b3⟩ := HCL.out _ hSB.2.1
              have hconv := conv_1 (P := Try.prog) WA 39 9 5 ch Try.underlying39 Try.underlying5 Try.underlying9
              have hb2 : bs R ++ bs [ch] = bs R2 := (bs_app _ _).trans (by rw [hR2])
              have hS3 := hSB.store R2
              obtain ⟨W3, hW3⟩ : ∃ W3, (WA.alloc (.cells #[.int .u8 ch.toNat] 5)).setCell ⟨gb, 0, none⟩ (.string (bs R2)) = W3 := ⟨_, rfl⟩
              rw [hW3] at hS3
              have z3 := hS3.lt
              obtain ⟨d1, d2, d3⟩ := HCL.out W3 hS3.2.1
              have hz1 : (bs R).size ≤ 1000000 := by simp; omega
              clear hR2
              go_wp2_with fail
              go_region_with (fail)
              all_goals go_wp2_with fail
              all_goals go_quiet ((go_at_call 13; exact Calls.quiet_of_same ((ht _).mono fun e w' h => ⟨h.1, h.2.symm⟩)))
              all_goals go_wp2_with fail
              all_goals
                go_roundw
                case rel => exact ⟨k + 1, gb, cap, by go_num, by omega, doner_mk (sg := []) HST.out (by rw [if_pos (by have := HDD.out; simpa using this)]) (by rw [HT.out]; first | done | rfl) ((show R2 = R ++ [] ++ [ch] by rw [List.append_nil, HR2.out]) ▸ hS3.drewN _) (by simp)⟩
                case measure => simp [intOf]; omega
            · rw [htk] at ht
              have HT := Lib.hid htk
              clear htk
              obtain ⟨R2, hR2⟩ : ∃ R2, R ++ [ch] = R2 := ⟨_, rfl⟩
              have HR2 := Lib.hid hR2
              have hSA := hS.drew
              obtain ⟨WA, hWA⟩ : ∃ WA, wr.drew = WA := ⟨_, rfl⟩
              rw [hWA] at hSA
              have a0 := hSA.cell; have af := hSA.frozen
              obtain ⟨a1, a2, a3⟩ := HCL.out WA hSA.2.1
              have hSB := hSA.alloc (.cells #[.int .u8 ch.toNat] 5)
              have b0 := hSB.cell; have bf := hSB.frozen
              obtain ⟨b1, b2, b3⟩ := HCL.out _ hSB.2.1
              have hconv := conv_1 (P := Try.prog) WA 39 9 5 ch Try.underlying39 Try.underlying5 Try.underlying9
              have hb2 : bs R ++ bs [ch] = bs R2 := (bs_app _ _).trans (by rw [hR2])
              have hS3 := hSB.store R2
              obtain ⟨W3, hW3⟩ : ∃ W3, (WA.alloc (.cells #[.int .u8 ch.toNat] 5)).setCell ⟨gb, 0, none⟩ (.string (bs R2)) = W3 := ⟨_, rfl⟩
              rw [hW3] at hS3
              have z3 := hS3.lt
              obtain ⟨d1, d2, d3⟩ := HCL.out W3 hS3.2.1
              have hz1 : (bs R).size ≤ 1000000 := by simp; omega
              clear hR2
              go_wp2_with fail
              go_region_with (fail)
              all_goals go_wp2_with fail
              all_goals go_quiet ((go_at_call 13; exact Calls.quiet_of_same ((ht _).mono fun e w' h => ⟨h.1, h.2.symm⟩)))
              all_goals go_wp2_with (at_builtin; refine wpList_out rfl _ _ rfl _ T gb cap (hS3.drewN _) rfl _ rfl rfl ag hT ?_; intro gb4 cap4 W4 S4)
              all_goals
                go_roundw
                case rel => exact ⟨k + 1, gb4, cap4, by go_num, by omega, doner_mk (sg := []) HST.out (by rw [if_pos (by have := HDD.out; simpa using this)]) (by rw [HT.out]; first | done | rfl) ((show R2 = R ++ [] ++ [ch] by rw [List.append_nil, HR2.out]) ▸ S4) (by simp)⟩
                case measure => simp [intOf]; omega
      · obtain rfl : k = l.length := by omega
        have hp1 : ¬ ((l.length : Int) < (l.length : Int)) := by omega
        rw [List.take_of_length_le (Nat.le_refl _)] at HD
        have hM : textM l = bs (textS l).1 :: (textS l).2.1 := by unfold textM; rw [if_neg (by intro e; rw [e] at hne; simp at hne)]
        obtain ⟨⟨R, T, p⟩, hst⟩ : ∃ x, textS l = x := ⟨_, rfl⟩
        rw [hst] at HD hM
        simp only at HD hM
        obtain ⟨rfl, rfl, hS⟩ := HD
        have HM := Lib.hid hM
        clear hst hM
        go_wp2_with fail
        go_ret
        have hown := hS.1
        have e : (Value.string (bs R) :: T.map .string) = (bs R :: T).map .string := rfl
        rw [e, ← HM.out, show T.length + 1 = (textM l).length by rw [HM.out]; rfl] at hown
        obtain ⟨A', c', hv, hc', hrow⟩ := RowT.owned hown
        refine ⟨A', c', ?_, hc', hrow, hS.2.1⟩
        rw [← hv, show T.length + 1 = (textM l).length by rw [HM.out]; rfl]
        rfl
  · have : l = [] := List.eq_nil_of_length_eq_zero (by omega)
    subst this
    exact textr_zero A c w
end Go.Proofs.Ytbpnaclnninndaa
