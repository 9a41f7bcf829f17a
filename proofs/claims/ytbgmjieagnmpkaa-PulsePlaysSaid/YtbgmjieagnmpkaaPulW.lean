/- Layer 16: PulsePlays. -/
import Derived.Test.YtbgmjieagnmpkaaPulV
import Derived.Test.YtbgmjieagnmpkaaDecP
namespace Go.Proofs.Ytbgmjieagnmpkaa
set_option linter.unusedVariables false
set_option linter.unusedSimpArgs false
open Go Go.RowKit Go.Maps Go.Sort Go.Shelf Go.Lib

/-- the program's pulse and the document's, apart -/
structure PlayP (w : World) (B : PB) (x Bd : Nat) (pg gr rg : Int) (Cp Cd : List Cn) (W : World) : Prop where
  pul : PulS w W B pg gr rg Cp
  ref : RefC Bd W x pg gr rg Cd
  low : B.p < Bd ∧ B.l < Bd ∧ B.lb < Bd ∧ B.q < Bd ∧ B.qb < Bd ∧ B.a < Bd ∧ B.ab < Bd
  bw : w.heap.size ≤ Bd ∧ Bd ≤ W.heap.size
section
variable {w W W1 : World} {B : PB} {x Bd : Nat} {pg gr rg : Int} {Cp Cd C1 : List Cn}
theorem PlayP.X (h : PlayP w B x Bd pg gr rg Cp Cd W) {k : Nat} (hk : B.X k) : k < Bd := by
  have := h.low
  rcases hk with rfl | rfl | rfl <;> omega
theorem PlayP.prog (h : PlayP w B x Bd pg gr rg Cp Cd W) (h1 : PulS w W1 B pg gr rg C1) (hf : Fr B.X W W1) : PlayP w B x Bd pg gr rg C1 Cd W1 :=
  ⟨h1, refC_fr h.ref hf fun b hb _ e => by have := h.X e; omega, h.low, h.bw.1, Nat.le_trans h.bw.2 hf.size⟩
theorem PlayP.doc (h : PlayP w B x Bd pg gr rg Cp Cd W) (h1 : RefC Bd W1 x pg gr rg C1) (hf : Fr (DocX W x) W W1) : PlayP w B x Bd pg gr rg Cp C1 W1 := by
  refine ⟨?_, h1, h.low, h.bw.1, Nat.le_trans h.bw.2 hf.size⟩
  obtain ⟨L, Q, A, g, hr⟩ := h.pul.pul
  have hl := h.low
  have hw := h.bw
  exact ⟨h.pul.below.trans (hf.below h.pul.below.size fun k _ e => by have := (docX_ge h.ref e).1; omega), L, Q, A, g.fr hf fun k e => by have := (docX_ge h.ref e).1; omega, hr⟩
theorem PlayP.rest (h : PlayP w B x Bd pg gr rg Cp Cd W) (hf : Fr (fun _ => False) W W1) : PlayP w B x Bd pg gr rg Cp Cd W1 :=
  ⟨h.pul.still hf, refC_fr h.ref hf fun _ _ _ e => e, h.low, h.bw.1, Nat.le_trans h.bw.2 hf.size⟩
theorem PulS.ids (h : PulS w W B pg gr rg Cp) : (Cp.map (·.id)).Nodup := by
  obtain ⟨L, Q, A, g, hr⟩ := h.pul
  exact hr.ids
theorem PulS.pb (h : PulS w W B pg gr rg Cp) : 1 ≤ pg ∧ pg ≤ 1000000 ∧ 1 ≤ gr ∧ gr ≤ 1000000 ∧ 1 ≤ rg ∧ rg ≤ 1000000 := by
  obtain ⟨L, Q, A, g, hr⟩ := h.pul
  exact g.pb
end
/-- its beginning -/
theorem playP_start {w W W2 : World} {B : PB} {pg gr rg : Int} (h : PulS w W B pg gr rg []) (h2 : W2 = W.alloc (.cells #[.int .i64 pg, .int .i64 gr, .int .i64 rg, .slice none 0 0] 65)) : PlayP w B W.heap.size W.heap.size pg gr rg [] [] W2 := by
  subst h2
  have hf : Fr (fun _ => False) W (W.alloc (.cells #[.int .i64 pg, .int .i64 gr, .int .i64 rg, .slice none 0 0] 65)) := (Fr.refl _ W).alloc _
  have hl : B.p < W.heap.size ∧ B.l < W.heap.size ∧ B.lb < W.heap.size ∧ B.q < W.heap.size ∧ B.qb < W.heap.size ∧ B.a < W.heap.size ∧ B.ab < W.heap.size := by
    obtain ⟨L, Q, A, g, _⟩ := h.pul
    exact g.lt
  exact ⟨h.still hf, ⟨Nat.le_refl _, none, 0, heap_alloc_new W _, ownK_nil _ _, by simp [Value.ownBlock]⟩, hl, h.below.size, by simp⟩
/-- ticks that may be -/
def CB (C : List Cn) (now : Int) : Prop := ∀ c ∈ C, 0 ≤ c.at_ ∧ c.at_ ≤ now
theorem CB.mono {C : List Cn} {now n2 : Int} (h : CB C now) (hn : now ≤ n2) : CB C n2 := fun c hc => ⟨(h c hc).1, Int.le_trans (h c hc).2 hn⟩
theorem CB.leave {C : List Cn} {now : Int} (h : CB C now) (id : Int) : CB (leaveC C id) now := fun c hc => h c (mem_leaveC.1 hc).1
theorem CB.join {C : List Cn} {now : Int} (h : CB C now) (hn : 0 ≤ now) (id : Int) : CB (joinC C id now) now := fun c hc => by
  rcases List.mem_append.1 hc with hc | hc
  · exact h.leave id c hc
  · obtain rfl := List.mem_singleton.1 hc
    exact ⟨hn, Int.le_refl _⟩
theorem CB.reg {C : List Cn} {now : Int} (h : CB C now) (hn : 0 ≤ now) (id : Int) : CB (regC C id now) now := fun c hc => by
  rcases mem_regC hc with ⟨h1, _⟩ | ⟨rfl, _⟩
  · exact h c h1
  · exact ⟨hn, Int.le_refl _⟩
theorem CB.line {C : List Cn} {now : Int} (h : CB C now) (hn : 0 ≤ now) (id : Int) : CB (lineC C id now) now := fun c hc => by
  obtain ⟨d, hd, rfl⟩ := List.mem_map.1 hc
  split
  · exact ⟨hn, Int.le_refl _⟩
  · exact h d hd
theorem CB.due {C : List Cn} {now : Int} (h : CB C now) (pg gr rg : Int) : CB (dueC pg gr rg now C) now := fun c hc => by
  obtain ⟨d, hd, rfl⟩ := List.mem_map.1 hc
  have e : (askC pg gr rg now d).at_ = d.at_ := by unfold askC; split <;> rfl
  rw [e]; exact h d hd
theorem len_leaveC (C : List Cn) (id : Int) : (leaveC C id).length ≤ C.length := List.length_filter_le _ _
theorem len_joinC (C : List Cn) (id now : Int) : (joinC C id now).length ≤ C.length + 1 := by
  unfold joinC
  rw [List.length_append]
  have := len_leaveC C id
  simp only [List.length_singleton]
  omega
theorem regC_len (C : List Cn) (id now : Int) : (regC C id now).length = C.length := by unfold regC; rw [List.length_map]
/-- what is due, on both sides -/
theorem play_due {w W : World} {B : PB} {x Bd : Nat} {pg gr rg now : Int} {C : List Cn} (h : PlayP w B x Bd pg gr rg C C W) (hl : C.length ≤ 900) (hc : CB C now) (hn : 0 ≤ now ∧ now ≤ 100000000000) :
    Calls Try.prog 37 #[.pointer (some ⟨x, 0, none⟩), .int .i64 now] W fun e W' => ∃ (A : Option Addr) (R : List (Int × Int)) (c : Nat), e = .returned (.slice A R.length c) ∧ PlayP w B x Bd pg gr rg C (dueC pg gr rg now C) W' ∧ Fr (DocX W x) W W' ∧ R.length ≤ 900 ∧ ∀ V, Fr (fun _ => False) W' V → Calls Try.prog 36 #[.pointer (some ⟨B.p, 0, none⟩), .slice A R.length c, .int .i64 now] V fun e V' => e = .returned (.bool true) ∧ PlayP w B x Bd pg gr rg (dueC pg gr rg now C) (dueC pg gr rg now C) V' ∧ Fr B.X V V' := by
  refine (refc_due h.ref h.bw.2 h.pul.ids (by omega) hn (fun c hcc => ⟨(hc c hcc).1, by have := (hc c hcc).2; omega⟩) h.pul.pb).mono fun e W' ⟨⟨A, R, c, he, ho, hd, hlr⟩, hr, hf⟩ => ?_
  have hp := h.doc hr hf
  refine ⟨A, R, c, he, hp, hf, by omega, fun V hV => ?_⟩
  have hpV := hp.rest hV
  have hrd : ReadsD V A R := readsW (ownW_kept ho fun g hg => hV.block g (ho.lt g hg).2 fun e => e)
  refine (s_same hpV.pul hn hl hd (by omega) A c hrd (fun g o h0 hA hX => ?_)).mono fun e V' ⟨h1, h2, h3⟩ => ⟨h1, hpV.prog h2 h3, h3⟩
  have h4 := hp.X hX
  rcases ho.2 with ⟨e1, e2⟩ | ⟨g', cap, cur, e1, hb, _⟩
  · omega
  · injection e1 with e1
    rw [hA] at e1
    injection e1 with e1
    injection e1 with e1 _ _
    have := h.bw.2
    omega
set_option maxRecDepth 100000 in
set_option maxHeartbeats 16000000 in
theorem pulsePlays_main (A : Option Addr) (l : List zpaT) (cc : Nat) (pg gr rg : Int) (hpb : 1 ≤ pg ∧ pg ≤ 1000000 ∧ 1 ≤ gr ∧ gr ≤ 1000000 ∧ 1 ≤ rg ∧ rg ≤ 1000000) (w : World) (hl : l.length ≤ 60)
    (hG : ∀ a ∈ l, zpaG a) (hA : 0 < l.length → ∃ g o, A = some ⟨g, o, none⟩ ∧ g < w.heap.size ∧ ∀ i (h : i < l.length) j u, (zpaL l[i])[j]? = some u → w.cell? ⟨g, o + i * 3 + j, none⟩ = some u) :
    Calls Try.prog 6 #[.int .i64 pg, .int .i64 gr, .int .i64 rg, .slice A l.length cc] w fun e w' => e = .returned (.bool true) ∧ RowKit.Below w.heap.size w w' := by
  have n0 : decide ((60 : Int) < (l.length : Int)) = false := by simp; omega
  have n1 : decide (pg < 1) = false := by simp; omega
  have n2 : decide (gr < 1) = false := by simp; omega
  have n3 : decide (rg < 1) = false := by simp; omega
  have n4 : decide (1000000 < pg) = false := by simp; omega
  have n5 : decide (1000000 < gr) = false := by simp; omega
  have n6 : decide (1000000 < rg) = false := by simp; omega
  have m0 : ¬ ((60 : Int) < (l.length : Int)) := by omega
  have m1 : ¬ pg < 1 := by omega
  have m2 : ¬ gr < 1 := by omega
  have m3 : ¬ rg < 1 := by omega
  have m4 : ¬ 1000000 < pg := by omega
  have m5 : ¬ 1000000 < gr := by omega
  have m6 : ¬ 1000000 < rg := by omega
  have HN : Hid (∀ W, RowKit.Below w.heap.size w W → _) := fun W hW => s_new (pg := pg) (gr := gr) (rg := rg) hpb (w := w) (W := W) hW
  unfold cfgV at HN
  have HA := Lib.hid (And.intro hA hG)
  clear hA hG
  go_enter Try.func6, Try.ntmps6
  go_wp2_with fail
  refine (awake16 w).mono ?_
  rintro e w1 ⟨rfl, b1⟩
  have B1 := Lib.hid b1
  clear b1
  go_wp2_with fail
  refine (HN.out w1 B1.out).mono ?_
  rintro e w2 ⟨B, rfl, h2, _, _⟩
  obtain ⟨x, hx⟩ : ∃ x, w2.heap.size = x := ⟨_, rfl⟩
  obtain ⟨w3, hw3⟩ : ∃ w3, w2.alloc (.cells #[.int .i64 pg, .int .i64 gr, .int .i64 rg, .slice none 0 0] 65) = w3 := ⟨_, rfl⟩
  have h3 := playP_start h2 hw3.symm
  rw [hx] at h3
  have H3 : Hid (∃ C, C.length ≤ 0 ∧ CB C 0 ∧ PlayP w B x x pg gr rg C C w3) := ⟨[], Nat.le_refl _, (fun c hc => by cases hc), h3⟩
  clear h2 h3 HN B1
  go_wp2_with fail
  clear hw3 hx
  go_loopw [11, 12] (fun s i wr => ∃ (now : Int) (j : Nat), s = .int .i64 now ∧ i = .int .i64 j ∧ j ≤ l.length ∧ 0 ≤ now ∧ now ≤ (j : Int) * 1000000 ∧ Hid (∃ C, C.length ≤ j ∧ CB C now ∧ PlayP w B x x pg gr rg C C wr)) (fun _ i _ => l.length - (RowKit.intOf i).toNat)
  case atStart => exact ⟨0, 0, rfl, rfl, Nat.zero_le _, by omega, by omega, H3⟩
  case round =>
    obtain ⟨now, j, rfl, rfl, hj, hn0, hn1, HC⟩ := hrel
    clear H3
    obtain ⟨C, hCl, hCB, hP⟩ := HC.out
    by_cases hlt : j < l.length
    · obtain ⟨hA, hG⟩ := HA.out
      obtain ⟨g, o, rfl, hgl, hcell⟩ := hA (by omega)
      obtain ⟨⟨kd, id, n⟩, hjl⟩ : ∃ a, l[j] = a := ⟨_, rfl⟩
      have hgw := hG l[j] (List.getElem_mem hlt)
      rw [hjl] at hgw
      have hfw : ∀ k, wr.cell? ⟨g, k, none⟩ = w.cell? ⟨g, k, none⟩ := fun k => World.cell?_of_block (w := w) (w' := wr) (a := ⟨g, k, none⟩) (hP.pul.below.block g hgl)
      have e0 : wr.cell? ⟨g, o + j * 3, none⟩ = some (.int .i64 kd) := by rw [hfw]; have := hcell j hlt 0 (.int .i64 kd) (by rw [hjl]; rfl); exact this
      have e1 : wr.cell? ⟨g, o + j * 3 + 1, none⟩ = some (.int .i64 id) := by rw [hfw]; have := hcell j hlt 1 (.int .i64 id) (by rw [hjl]; rfl); exact this
      have e2 : wr.cell? ⟨g, o + j * 3 + 2, none⟩ = some (.int .i64 n) := by rw [hfw]; have := hcell j hlt 2 (.int .i64 n) (by rw [hjl]; rfl); exact this
      have hok : OkKI id := hgw.2.1
      have hnw := hgw.2.2
      have p0 : (j : Int) < (l.length : Int) := by omega
      have r0 : (0 : Int) ≤ (j : Int) := by omega
      have hnow : 0 ≤ now ∧ now ≤ 100000000 := by omega
      obtain ⟨ab, hab⟩ : ∃ ab, wr.heap.size = ab := ⟨_, rfl⟩
      obtain ⟨Wa, hWa⟩ : ∃ Wa, wr.alloc (Obj.cells #[Value.int IntKind.i64 kd, Value.int IntKind.i64 id, Value.int IntKind.i64 n] 67) = Wa := ⟨_, rfl⟩
      have ha : Wa.heap[ab]? = some (.cells #[Value.int IntKind.i64 kd, Value.int IntKind.i64 id, Value.int IntKind.i64 n] 67 (0, 0)) := by rw [← hWa, ← hab]; exact heap_alloc_new wr _
      have fa : Fr (fun _ => False) wr Wa := by rw [← hWa]; exact (Fr.refl _ wr).alloc _
      have hPa := hP.rest fa
      have hdx : ¬ DocX Wa x ab := fun e => by
        have e1 : DocX wr x ab := by
          rcases e with e | ⟨A', n', c', q1, q2⟩
          · exact .inl e
          · refine .inr ⟨A', n', c', ?_, q2⟩
            obtain ⟨_, A0, c0, u1, _⟩ := hP.ref
            rw [← fa.cell (p := ⟨x, 3, none⟩) (blk_lt u1) (fun e => e)]
            exact q1
        have := (docX_ge hP.ref e1).2
        omega
      have hbx : ¬ B.X ab := fun e => by have := hP.X e; have := hP.bw.2; omega
      have c0 := blk_cell ha 0
      have HM := Lib.hid (And.intro ha (And.intro hPa (And.intro hdx (And.intro hbx (And.intro hCB (And.intro hok hnw))))))
      clear hA hG hcell hgl hjl hgw hfw hok hnw ha fa hPa hdx hbx hCB hP HC
      go_upto_block 2 with fail
      clear hWa hab e0 e1 e2
      go_cut [11] from 56 to 175 (fun s wx => ∃ now2 : Int, s = .int .i64 now2 ∧ now ≤ now2 ∧ now2 ≤ now + 1000000 ∧ Hid (∃ C2, C2.length ≤ j + 1 ∧ CB C2 now2 ∧ PlayP w B x x pg gr rg C2 C2 wx ∧ wx.heap[ab]? = some (.cells #[Value.int IntKind.i64 kd, Value.int IntKind.i64 id, Value.int IntKind.i64 n] 67 (0, 0))))
      case first =>
        obtain ⟨ha, hPa, hdx, hbx, hCB, hok, hnw⟩ := HM.out
        have c1 := blk_cell ha 1
        have c2 := blk_cell ha 2
        by_cases hk1 : kd = 1
        · subst hk1
          have H1 := Lib.hid (s_reg hPa.pul hok ⟨hn0, by omega⟩ (by omega))
          have HQ := Lib.hid (And.intro ha (And.intro hPa (And.intro hdx (And.intro hbx hCB))))
          clear ha hdx hbx hCB hok hnw
          go_wp2_with fail
          refine H1.out.mono ?_
          rintro e W5 ⟨rfl, h5, f5⟩
          have hQ := hPa.prog h5 f5
          have h2 := refc_reg hQ.ref hPa.pul.ids (by omega) id now
          have ha5 := f5.blk HQ.out.1 HQ.out.2.2.2.1
          have hdx5 : ¬ DocX W5 x ab := fun e => HQ.out.2.2.1 (by
            rcases e with e | ⟨A', n', c', q1, q2⟩
            · exact .inl e
            · refine .inr ⟨A', n', c', ?_, q2⟩
              obtain ⟨u0, A0, c0, u1, _⟩ := hPa.ref
              rw [← f5.cell (p := ⟨x, 3, none⟩) (blk_lt u1) (fun e => Nat.lt_irrefl _ (hPa.X e))]
              exact q1)
          have c1 := blk_cell ha5 1
          have H2 := Lib.hid (And.intro h2 (And.intro hQ (And.intro ha5 hdx5)))
          clear h5 f5 hQ h2 ha5 hdx5 H1
          go_wp2_with fail
          refine H2.out.1.mono ?_
          rintro e W6 ⟨rfl, h6, f6⟩
          have H6 := Lib.hid (And.intro h6 f6)
          clear h6 f6
          go_wp2_with fail
          go_meet
          case rel =>
            obtain ⟨h6, f6⟩ := H6.out
            have hCB := HQ.out.2.2.2.2
            exact ⟨now, rfl, by omega, by omega, regC C id now, by rw [regC_len]; omega, hCB.reg hn0 id, H2.out.2.1.doc h6 f6, f6.blk H2.out.2.2.1 H2.out.2.2.2⟩
        · have q1 : (kd == 1) = false := by simpa using hk1
          by_cases hk2 : kd = 2
          · subst hk2
            have H1 := Lib.hid (s_line hPa.pul hok ⟨hn0, by omega⟩ (by omega))
            have HQ := Lib.hid (And.intro ha (And.intro hPa (And.intro hdx (And.intro hbx hCB))))
            clear ha hdx hbx hCB hok hnw
            go_wp2_with fail
            refine H1.out.mono ?_
            rintro e W5 ⟨rfl, h5, f5⟩
            have hQ := hPa.prog h5 f5
            have h2 := refc_line hQ.ref hPa.pul.ids (by omega) id now
            have ha5 := f5.blk HQ.out.1 HQ.out.2.2.2.1
            have hdx5 : ¬ DocX W5 x ab := fun e => HQ.out.2.2.1 (by
              rcases e with e | ⟨A', n', c', q1, q2⟩
              · exact .inl e
              · refine .inr ⟨A', n', c', ?_, q2⟩
                obtain ⟨u0, A0, c0, u1, _⟩ := hPa.ref
                rw [← f5.cell (p := ⟨x, 3, none⟩) (blk_lt u1) (fun e => Nat.lt_irrefl _ (hPa.X e))]
                exact q1)
            have c1 := blk_cell ha5 1
            have H2 := Lib.hid (And.intro h2 (And.intro hQ (And.intro ha5 hdx5)))
            clear h5 f5 hQ h2 ha5 hdx5 H1
            go_wp2_with fail
            refine H2.out.1.mono ?_
            rintro e W6 ⟨rfl, h6, f6⟩
            have H6 := Lib.hid (And.intro h6 f6)
            clear h6 f6
            go_wp2_with fail
            go_meet
            case rel =>
              obtain ⟨h6, f6⟩ := H6.out
              have hCB := HQ.out.2.2.2.2
              exact ⟨now, rfl, by omega, by omega, lineC C id now, by unfold lineC; rw [List.length_map]; omega, hCB.line hn0 id, H2.out.2.1.doc h6 f6, f6.blk H2.out.2.2.1 H2.out.2.2.2⟩
          · have q2 : (kd == 2) = false := by simpa using hk2
            by_cases hk3 : kd = 3
            · subst hk3
              have H1 := Lib.hid (s_leave hPa.pul hok)
              have HQ := Lib.hid (And.intro ha (And.intro hPa (And.intro hdx (And.intro hbx hCB))))
              clear ha hdx hbx hCB hok hnw
              go_wp2_with fail
              refine H1.out.mono ?_
              rintro e W5 ⟨rfl, h5, f5⟩
              have hQ := hPa.prog h5 f5
              have h2 := refc_leave hQ.ref hQ.bw.2 hPa.pul.ids (by omega) id
              have ha5 := f5.blk HQ.out.1 HQ.out.2.2.2.1
              have hdx5 : ¬ DocX W5 x ab := fun e => HQ.out.2.2.1 (by
                rcases e with e | ⟨A', n', c', q1, q2⟩
                · exact .inl e
                · refine .inr ⟨A', n', c', ?_, q2⟩
                  obtain ⟨u0, A0, c0, u1, _⟩ := hPa.ref
                  rw [← f5.cell (p := ⟨x, 3, none⟩) (blk_lt u1) (fun e => Nat.lt_irrefl _ (hPa.X e))]
                  exact q1)
              have c1 := blk_cell ha5 1
              have H2 := Lib.hid (And.intro h2 (And.intro hQ (And.intro ha5 hdx5)))
              clear h5 f5 hQ h2 ha5 hdx5 H1
              go_wp2_with fail
              refine H2.out.1.mono ?_
              rintro e W6 ⟨rfl, h6, f6⟩
              have H6 := Lib.hid (And.intro h6 f6)
              clear h6 f6
              go_wp2_with fail
              go_meet
              case rel =>
                obtain ⟨h6, f6⟩ := H6.out
                have hCB := HQ.out.2.2.2.2
                exact ⟨now, rfl, by omega, by omega, leaveC C id, by have := len_leaveC C id; omega, hCB.leave id, H2.out.2.1.doc h6 f6, f6.blk H2.out.2.2.1 H2.out.2.2.2⟩
            · have q3 : (kd == 3) = false := by simpa using hk3
              by_cases hk4 : kd = 4
              · subst hk4
                by_cases hna : 0 ≤ n ∧ n ≤ 1000000
                · have hw : IntKind.i64.wrap (now + n) = now + n := IntWalk.i64_in _ ⟨by omega, by omega⟩
                  obtain ⟨hna1, hna2⟩ := hna
                  have HQ := Lib.hid (And.intro ha (And.intro hPa hCB))
                  clear ha hPa hdx hbx hCB hok hnw
                  go_wp2_with fail
                  go_meet
                  case rel =>
                    obtain ⟨ha, hPa, hCB⟩ := HQ.out
                    exact ⟨now + n, rfl, by omega, by omega, C, by omega, hCB.mono (by omega), hPa, ha⟩
                · have HQ := Lib.hid (And.intro ha (And.intro hPa hCB))
                  clear ha hPa hdx hbx hCB hok hnw
                  by_cases hn2 : 0 ≤ n
                  · have hn3 : ¬ n ≤ 1000000 := fun e => hna ⟨hn2, e⟩
                    have hn4 : decide (n ≤ 1000000) = false := by simpa using hn3
                    clear hna
                    go_wp2_with fail
                    go_meet
                    case rel =>
                      obtain ⟨ha, hPa, hCB⟩ := HQ.out
                      exact ⟨now, rfl, by omega, by omega, C, by omega, hCB, hPa, ha⟩
                  · have hn4 : decide (0 ≤ n) = false := by simpa using hn2
                    clear hna
                    go_wp2_with fail
                    go_meet
                    case rel =>
                      obtain ⟨ha, hPa, hCB⟩ := HQ.out
                      exact ⟨now, rfl, by omega, by omega, C, by omega, hCB, hPa, ha⟩
              · have q4 : (kd == 4) = false := by simpa using hk4
                by_cases hk5 : kd = 5
                · subst hk5
                  have HD := Lib.hid (play_due hPa (by omega) hCB ⟨hn0, by omega⟩)
                  clear ha hPa hok hnw
                  go_wp2_with fail
                  refine HD.out.mono ?_
                  rintro e W5 ⟨A5, R5, c5, rfl, hP5, f5, hl5, hs5⟩
                  have HS := Lib.hid (hs5 W5 (Fr.refl _ _))
                  have H5 := Lib.hid f5
                  obtain ⟨rl, hrl⟩ : ∃ rl, R5.length = rl := ⟨_, rfl⟩
                  rw [hrl] at HS ⊢
                  clear hP5 f5 hs5 HD hrl
                  go_wp2_with fail
                  refine HS.out.mono ?_
                  rintro e W6 ⟨rfl, hP6, f6⟩
                  have H6 := Lib.hid (And.intro hP6 f6)
                  clear hP6 f6 HS
                  go_wp2_with fail
                  go_meet
                  case rel =>
                    obtain ⟨hP6, f6⟩ := H6.out
                    refine ⟨now, rfl, by omega, by omega, dueC pg gr rg now C, by unfold dueC; rw [List.length_map]; omega, hCB.due pg gr rg, hP6, f6.blk (H5.out.blk HM.out.1 hdx) hbx⟩
                · have q5 : (kd == 5) = false := by simpa using hk5
                  have H1 := Lib.hid (s_join hPa.pul hok ⟨hn0, by omega⟩ (by omega))
                  have HQ := Lib.hid (And.intro ha (And.intro hPa (And.intro hdx (And.intro hbx hCB))))
                  clear ha hdx hbx hCB hok hnw
                  go_wp2_with fail
                  refine H1.out.mono ?_
                  rintro e W5 ⟨rfl, h5, f5⟩
                  have hQ := hPa.prog h5 f5
                  have h2 := refc_join hQ.ref hQ.bw.2 hPa.pul.ids (by omega) id now
                  have ha5 := f5.blk HQ.out.1 HQ.out.2.2.2.1
                  have hdx5 : ¬ DocX W5 x ab := fun e => HQ.out.2.2.1 (by
                    rcases e with e | ⟨A', n', c', q1, q2⟩
                    · exact .inl e
                    · refine .inr ⟨A', n', c', ?_, q2⟩
                      obtain ⟨u0, A0, c0, u1, _⟩ := hPa.ref
                      rw [← f5.cell (p := ⟨x, 3, none⟩) (blk_lt u1) (fun e => Nat.lt_irrefl _ (hPa.X e))]
                      exact q1)
                  have c1 := blk_cell ha5 1
                  have H2 := Lib.hid (And.intro h2 (And.intro hQ (And.intro ha5 hdx5)))
                  clear h5 f5 hQ h2 ha5 hdx5 H1
                  go_wp2_with fail
                  refine H2.out.1.mono ?_
                  rintro e W6 ⟨rfl, h6, f6⟩
                  have H6 := Lib.hid (And.intro h6 f6)
                  clear h6 f6
                  go_wp2_with fail
                  go_meet
                  case rel =>
                    obtain ⟨h6, f6⟩ := H6.out
                    have hCB := HQ.out.2.2.2.2
                    exact ⟨now, rfl, by omega, by omega, joinC C id now, by have := len_joinC C id now; omega, hCB.join hn0 id, H2.out.2.1.doc h6 f6, f6.blk H2.out.2.2.1 H2.out.2.2.2⟩
      case rest =>
        obtain ⟨now2, rfl, hle1, hle2, HC2⟩ := hcut
        obtain ⟨C2, hC2l, hCB2, hP2, ha2⟩ := HC2.out
        have hok := HM.out.2.2.2.2.2.1
        have hw2 : 0 ≤ now2 ∧ now2 ≤ 100000000000 := by omega
        have HI := Lib.hid (s_idle hP2.pul hok hw2)
        have c1 := blk_cell ha2 1
        have HP2 := Lib.hid (And.intro hP2 (And.intro ha2 hCB2))
        clear hP2 ha2 hCB2 c0 HM HC2
        obtain ⟨fc, hf⟩ : ∃ fc, findC C2 id = fc := ⟨_, rfl⟩
        rw [hf] at HI
        have HF := Lib.hid hf
        clear hf
        cases fc with
        | none =>
          dsimp only [Option.map, idleV] at HI
          go_wp2_with fail
          refine HI.out.mono ?_
          rintro e W5 ⟨rfl, h5, f5⟩
          have hP5 := HP2.out.1.rest f5
          have c1 := blk_cell (f5.blk HP2.out.2.1 fun e => e) 1
          have HAt := Lib.hid (refc_at hP5.ref (by omega) id)
          have H5 := Lib.hid hP5
          clear h5 f5 hP5 HI
          go_wp2_with fail
          refine HAt.out.mono ?_
          rintro e W6 ⟨⟨n6, rfl, hix⟩, rfl⟩
          obtain rfl : n6 = -1 := by
            rcases hix with ⟨h, _⟩ | ⟨i, hi, _, hi2⟩
            · exact h
            · exact absurd hi2 (findC_none.1 HF.out _ (List.getElem_mem hi))
          clear hix HAt
          go_wp2_with fail
          go_roundw
          case rel => exact ⟨now2, j + 1, rfl, by go_num, by omega, by omega, by omega, C2, by omega, HP2.out.2.2, H5.out⟩
          case measure => simp [RowKit.intOf]; omega
        | some c =>
          dsimp only [Option.map, idleV] at HI
          go_wp2_with fail
          refine HI.out.mono ?_
          rintro e W5 ⟨rfl, h5, f5⟩
          have hP5 := HP2.out.1.rest f5
          have c1 := blk_cell (f5.blk HP2.out.2.1 fun e => e) 1
          have HAt := Lib.hid (refc_at hP5.ref (by omega) id)
          have H5 := Lib.hid hP5
          clear h5 f5 hP5 HI
          go_wp2_with fail
          refine HAt.out.mono ?_
          rintro e W6 ⟨⟨n6, rfl, hix⟩, rfl⟩
          obtain ⟨i, hi, rfl, hi2⟩ : ∃ i, ∃ h : i < C2.length, n6 = (i : Int) ∧ C2[i].id = id := by
            rcases hix with ⟨_, h⟩ | h
            · rw [HF.out] at h; cases h
            · exact h
          have hP5 := H5.out
          have hcc : C2[i] = c := by
            have := findC_at hP5.pul.ids hi
            rw [hi2, HF.out] at this
            exact (Option.some.inj this).symm
          obtain ⟨_, A7, c7, u1, u2, _⟩ := hP5.ref
          obtain ⟨g7, o7, rfl, hg7, hc7⟩ := reads_ownK u2 (by omega)
          have d3 : W6.cell? ⟨x, 3, none⟩ = some (.slice (some ⟨g7, o7, none⟩) C2.length c7) := blk_cell u1 3
          have d4 := (hc7 i hi).2.1
          rw [hcc] at d4
          have hcb := HP2.out.2.2 c (by rw [← hcc]; exact List.getElem_mem hi)
          have hws : IntKind.i64.wrap (now2 - c.at_) = now2 - c.at_ := IntWalk.i64_in _ ⟨by omega, by omega⟩
          have s1 : (0 : Int) ≤ (i : Int) := by omega
          have s2 : (i : Int) < (C2.length : Int) := by omega
          have s3 : decide ((0 : Int) ≤ (i : Int)) = true := by simp
          clear hix HAt hP5 u1 u2 hc7 hg7 hcc hcb hi2
          go_wp2_with fail
          go_roundw
          case rel => exact ⟨now2, j + 1, rfl, by go_num, by omega, by omega, by omega, C2, by omega, HP2.out.2.2, H5.out⟩
          case measure => simp [RowKit.intOf]; omega
    · obtain rfl : j = l.length := by omega
      have p0 : ¬ ((l.length : Int) < (l.length : Int)) := by omega
      have HD := Lib.hid (play_due hP (by omega) hCB ⟨hn0, by omega⟩)
      clear hP hCB HC
      go_wp2_with fail
      refine HD.out.mono ?_
      rintro e W5 ⟨A5, R5, c5, rfl, hP5, f5, hl5, hs5⟩
      have HS := Lib.hid (hs5 W5 (Fr.refl _ _))
      obtain ⟨rl, hrl⟩ : ∃ rl, R5.length = rl := ⟨_, rfl⟩
      rw [hrl] at HS ⊢
      clear hP5 f5 hs5 HD hrl
      go_wp2_with fail
      refine HS.out.mono ?_
      rintro e W6 ⟨rfl, hP6, f6⟩
      have H6 := Lib.hid hP6.pul.below
      clear hP6 f6 HS
      go_wp2_with fail
      go_ret
      exact ⟨rfl, H6.out⟩
set_option maxRecDepth 100000 in
set_option maxHeartbeats 8000000 in
theorem pulsePlays_walk (A : Option Addr) (l : List zpaT) (cc : Nat) (pg gr rg : Int) (w : World) (hG : ∀ a ∈ l, zpaG a) (hA : 0 < l.length → ∃ g o, A = some ⟨g, o, none⟩ ∧ g < w.heap.size ∧ ∀ i (h : i < l.length) j u, (zpaL l[i])[j]? = some u → w.cell? ⟨g, o + i * 3 + j, none⟩ = some u) :
    Calls Try.prog 6 #[.int .i64 pg, .int .i64 gr, .int .i64 rg, .slice A l.length cc] w fun e w' => e = .returned (.bool true) ∧ RowKit.Below w.heap.size w w' := by
  by_cases h0 : (60 : Int) < (l.length : Int)
  · have n0 : decide ((60 : Int) < (l.length : Int)) = true := by simpa using h0
    clear hG hA
    go_enter Try.func6, Try.ntmps6
    go_wp2_with fail
    refine (awake16 w).mono ?_
    rintro e w1 ⟨rfl, b1⟩
    have B1 := Lib.hid b1
    clear b1
    go_wp2_with fail
    go_ret
    exact ⟨rfl, B1.out⟩
  by_cases h1 : pg < 1
  · have n1 : decide (pg < 1) = true := by simpa using h1
    have n0 : decide ((60 : Int) < (l.length : Int)) = false := by simpa using h0
    clear hG hA
    go_enter Try.func6, Try.ntmps6
    go_wp2_with fail
    refine (awake16 w).mono ?_
    rintro e w1 ⟨rfl, b1⟩
    have B1 := Lib.hid b1
    clear b1
    go_wp2_with fail
    go_ret
    exact ⟨rfl, B1.out⟩
  by_cases h2 : gr < 1
  · have n2 : decide (gr < 1) = true := by simpa using h2
    have n0 : decide ((60 : Int) < (l.length : Int)) = false := by simpa using h0
    have n1 : decide (pg < 1) = false := by simpa using h1
    clear hG hA
    go_enter Try.func6, Try.ntmps6
    go_wp2_with fail
    refine (awake16 w).mono ?_
    rintro e w1 ⟨rfl, b1⟩
    have B1 := Lib.hid b1
    clear b1
    go_wp2_with fail
    go_ret
    exact ⟨rfl, B1.out⟩
  by_cases h3 : rg < 1
  · have n3 : decide (rg < 1) = true := by simpa using h3
    have n0 : decide ((60 : Int) < (l.length : Int)) = false := by simpa using h0
    have n1 : decide (pg < 1) = false := by simpa using h1
    have n2 : decide (gr < 1) = false := by simpa using h2
    clear hG hA
    go_enter Try.func6, Try.ntmps6
    go_wp2_with fail
    refine (awake16 w).mono ?_
    rintro e w1 ⟨rfl, b1⟩
    have B1 := Lib.hid b1
    clear b1
    go_wp2_with fail
    go_ret
    exact ⟨rfl, B1.out⟩
  by_cases h4 : 1000000 < pg
  · have n4 : decide (1000000 < pg) = true := by simpa using h4
    have n0 : decide ((60 : Int) < (l.length : Int)) = false := by simpa using h0
    have n1 : decide (pg < 1) = false := by simpa using h1
    have n2 : decide (gr < 1) = false := by simpa using h2
    have n3 : decide (rg < 1) = false := by simpa using h3
    clear hG hA
    go_enter Try.func6, Try.ntmps6
    go_wp2_with fail
    refine (awake16 w).mono ?_
    rintro e w1 ⟨rfl, b1⟩
    have B1 := Lib.hid b1
    clear b1
    go_wp2_with fail
    go_ret
    exact ⟨rfl, B1.out⟩
  by_cases h5 : 1000000 < gr
  · have n5 : decide (1000000 < gr) = true := by simpa using h5
    have n0 : decide ((60 : Int) < (l.length : Int)) = false := by simpa using h0
    have n1 : decide (pg < 1) = false := by simpa using h1
    have n2 : decide (gr < 1) = false := by simpa using h2
    have n3 : decide (rg < 1) = false := by simpa using h3
    have n4 : decide (1000000 < pg) = false := by simpa using h4
    clear hG hA
    go_enter Try.func6, Try.ntmps6
    go_wp2_with fail
    refine (awake16 w).mono ?_
    rintro e w1 ⟨rfl, b1⟩
    have B1 := Lib.hid b1
    clear b1
    go_wp2_with fail
    go_ret
    exact ⟨rfl, B1.out⟩
  by_cases h6 : 1000000 < rg
  · have n6 : decide (1000000 < rg) = true := by simpa using h6
    have n0 : decide ((60 : Int) < (l.length : Int)) = false := by simpa using h0
    have n1 : decide (pg < 1) = false := by simpa using h1
    have n2 : decide (gr < 1) = false := by simpa using h2
    have n3 : decide (rg < 1) = false := by simpa using h3
    have n4 : decide (1000000 < pg) = false := by simpa using h4
    have n5 : decide (1000000 < gr) = false := by simpa using h5
    clear hG hA
    go_enter Try.func6, Try.ntmps6
    go_wp2_with fail
    refine (awake16 w).mono ?_
    rintro e w1 ⟨rfl, b1⟩
    have B1 := Lib.hid b1
    clear b1
    go_wp2_with fail
    go_ret
    exact ⟨rfl, B1.out⟩
  exact pulsePlays_main A l cc pg gr rg ⟨by omega, by omega, by omega, by omega, by omega, by omega⟩ w (by omega) hG hA
end Go.Proofs.Ytbgmjieagnmpkaa
