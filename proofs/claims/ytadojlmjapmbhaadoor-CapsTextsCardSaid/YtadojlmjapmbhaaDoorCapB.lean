/- Layer 12: All, Number, CutPrefix, the answers' Number. -/
import Derived.Test.YtadojlmjapmbhaaDoorCapA
namespace Go.Proofs.YtadojlmjapmbhaaDoor
set_option linter.unusedVariables false
set_option linter.unusedSimpArgs false
open Go.RowKit Go.Shelf
attribute [local go_sem] Oper.semAt_some

theorem cell_lt {W : World} {g o : Nat} {v : Value} (h : W.cell? ⟨g, o, none⟩ = some v) : g < W.heap.size := by
  unfold World.cell? at h
  cases hb : W.heap[g]? with
  | none => simp [hb] at h
  | some x => exact (Array.getElem?_eq_some_iff.1 hb).1
/-- a result that lies in a cell -/
theorem res_in {P : Program} {fn : Func} {p : Tmp} {ty : TypeId} (h : fn.results = #[.cell p ty]) (tmps : Array Value) (w : World) (g : Nat) (v : Value) (d : TypeDesc) (hp : tmps.getD p undef = .pointer (some ⟨g, 0, none⟩)) (hc : w.cell? ⟨g, 0, none⟩ = some v)
    (hu : P.underlying ty = some d) (hd : (match d with | .struct _ | .array _ _ => true | _ => false) = false) : (results fn tmps).run P w = .ok v w := by
  have hp' : tmps[p]?.getD undef = .pointer (some ⟨g, 0, none⟩) := by simpa using hp
  have hagg : (isAgg ty).run P w = .ok false w := by
    unfold isAgg
    rw [Sem.run_bind, run_underlying hu w]
    cases d <;> simp_all
  simp [results, h, hp', asAddr, loadVar, Sem.run_bind, hagg, go_sem, hc]
theorem def_cell {W : World} {D b : Nat} {v : Value} (hK : W.heap[D]? = some (.deferred (some []))) (o' : Obj) (hc : W.cell? ⟨b, 0, none⟩ = some v) : (W.putObj D o').cell? ⟨b, 0, none⟩ = some v := by
  have hne : b ≠ D := by
    rintro rfl
    simp [World.cell?, hK] at hc
  exact (World.cell?_of_block (w := W) (a := ⟨b, 0, none⟩) (World.putObj_heap_other hne)).trans hc

def awayB : ByteArray := ⟨#[97, 119, 97, 121, 45, 110, 111, 116, 105, 102, 121]⟩
def echoB : ByteArray := ⟨#[101, 99, 104, 111, 45, 109, 101, 115, 115, 97, 103, 101]⟩
def multiB : ByteArray := ⟨#[109, 117, 108, 116, 105, 45, 112, 114, 101, 102, 105, 120]⟩
abbrev CapE := ByteArray × Int
abbrev encCap (x : CapE) : Array Value := #[.string x.1, .int .i64 x.2]
def knownC : List CapE := [(awayB, 1), (echoB, 2), (multiB, 4)]
/-- the table is laid -/
def Known (W : World) : Prop := W.cell? ⟨0, 0, none⟩ = some (.string awayB) ∧ W.cell? ⟨0, 1, none⟩ = some (.int .i64 1) ∧ W.cell? ⟨0, 2, none⟩ = some (.string echoB) ∧ W.cell? ⟨0, 3, none⟩ = some (.int .i64 2) ∧
  W.cell? ⟨0, 4, none⟩ = some (.string multiB) ∧ W.cell? ⟨0, 5, none⟩ = some (.int .i64 4)
theorem Known.kept {W W' : World} (h : Known W) (hb : Below W.heap.size W W') : Known W' := by
  have hg := cell_lt h.1
  unfold Known
  rw [hb.cell (p := ⟨_, 0, none⟩) hg, hb.cell (p := ⟨_, 1, none⟩) hg, hb.cell (p := ⟨_, 2, none⟩) hg, hb.cell (p := ⟨_, 3, none⟩) hg, hb.cell (p := ⟨_, 4, none⟩) hg, hb.cell (p := ⟨_, 5, none⟩) hg]
  exact h

theorem all_any (w : World) : Calls Tryd.prog 11 #[] w fun e w' => e = .returned (.func (.func 22) #[] #[]) ∧ w' = w := by
  go_enter Tryd.func11, Tryd.ntmps11
  go_wp2
  go_ret
  exact ⟨rfl, rfl⟩

theorem cap_at0 (a b c : ByteArray) (i j k : Int) (w : World) : (Instr.index 50 (.agg #[.string a, .int .i64 i, .string b, .int .i64 j, .string c, .int .i64 k]) (.int .i64 0)).run Tryd.prog w = .ok (.agg #[.string a, .int .i64 i]) w := by kernel_rfl
theorem cap_at1 (a b c : ByteArray) (i j k : Int) (w : World) : (Instr.index 50 (.agg #[.string a, .int .i64 i, .string b, .int .i64 j, .string c, .int .i64 k]) (.int .i64 1)).run Tryd.prog w = .ok (.agg #[.string b, .int .i64 j]) w := by kernel_rfl
theorem cap_at2 (a b c : ByteArray) (i j k : Int) (w : World) : (Instr.index 50 (.agg #[.string a, .int .i64 i, .string b, .int .i64 j, .string c, .int .i64 k]) (.int .i64 2)).run Tryd.prog w = .ok (.agg #[.string c, .int .i64 k]) w := by kernel_rfl

set_option maxRecDepth 100000 in
set_option maxHeartbeats 4000000 in
theorem all_stops (n : Nat) (hn : 2 ≤ n) (w : World) (hK : Known w) :
    SeqW Fence.wide n Tryd.prog 22 #[] encCap (fun _ => False) (fun xs => xs = knownC) (fun pre => ∃ r, pre ++ r = knownC) 3 w := fun l J Jx V hV hJ hJx hY h0 => by
  obtain ⟨q0, q1, q2, q3, q4, q5⟩ := hK.kept hV
  refine callsIn_of_wp Tryd.func22 rfl trivial ?_ rfl
  simp only [Tryd.ntmps22, List.size_toArray, List.length_cons, List.length_nil, Nat.reduceAdd, Nat.reduceSub, Array.replicate_succ, Array.replicate_zero, List.push_toArray, List.append_toArray, List.nil_append, List.cons_append]
  gi_wp2_with fail
  gi_loopw [5] (fun i wr => ∃ k : Nat, i = .int .i64 k ∧ k ≤ 3 ∧ J (knownC.take k) wr) (fun i _ => 3 - (intOf i).toNat)
  case atStart => exact ⟨0, rfl, by omega, h0⟩
  case round =>
    obtain ⟨k, rfl, hk, hJs⟩ := hrel
    clear q0 q1 q2 q3 q4 q5
    have hc0 := cap_at0; have hc1 := cap_at1; have hc2 := cap_at2
    rcases k with _ | _ | _ | _ | k
    · have hJ1 := hJ _ _ _ none hJs (World.grownBy_alloc wr (.cells #[.string awayB, .int .i64 1] 49) none) (fun r e => by cases e)
      obtain ⟨fn, tmps, assign, body, hy, hRd⟩ := hY _ (awayB, 1) _ hJ1 (by decide)
      dsimp only [encCap] at hy
      gi_wp2_with fail
      refine ⟨fun _ => by omega, hRd.mono ?_⟩
      rintro e W3 (⟨rfl, hJ3, _⟩ | ⟨rfl, hJx3⟩)
      · gi_wp2_with fail
        go_roundw
        case rel => exact ⟨1, by go_num, by omega, hJ3⟩
        case measure => simp [intOf]
      · gi_wp2_with fail
        refine bodyPost_ret (results_none rfl _ _ _) rfl ?_
        exact ⟨⟨_, rfl⟩, .inr ⟨_, ⟨knownC.drop 1, rfl⟩, hJx3⟩⟩
    · have hJ1 := hJ _ _ _ none hJs (World.grownBy_alloc wr (.cells #[.string echoB, .int .i64 2] 49) none) (fun r e => by cases e)
      obtain ⟨fn, tmps, assign, body, hy, hRd⟩ := hY _ (echoB, 2) _ hJ1 (by decide)
      dsimp only [encCap] at hy
      gi_wp2_with fail
      refine ⟨fun _ => by omega, hRd.mono ?_⟩
      rintro e W3 (⟨rfl, hJ3, _⟩ | ⟨rfl, hJx3⟩)
      · gi_wp2_with fail
        go_roundw
        case rel => exact ⟨2, by go_num, by omega, hJ3⟩
        case measure => simp [intOf]
      · gi_wp2_with fail
        refine bodyPost_ret (results_none rfl _ _ _) rfl ?_
        exact ⟨⟨_, rfl⟩, .inr ⟨_, ⟨knownC.drop 2, rfl⟩, hJx3⟩⟩
    · have hJ1 := hJ _ _ _ none hJs (World.grownBy_alloc wr (.cells #[.string multiB, .int .i64 4] 49) none) (fun r e => by cases e)
      obtain ⟨fn, tmps, assign, body, hy, hRd⟩ := hY _ (multiB, 4) _ hJ1 (by decide)
      dsimp only [encCap] at hy
      gi_wp2_with fail
      refine ⟨fun _ => by omega, hRd.mono ?_⟩
      rintro e W3 (⟨rfl, hJ3, _⟩ | ⟨rfl, hJx3⟩)
      · gi_wp2_with fail
        go_roundw
        case rel => exact ⟨3, by go_num, by omega, hJ3⟩
        case measure => simp [intOf]
      · gi_wp2_with fail
        refine bodyPost_ret (results_none rfl _ _ _) rfl ?_
        exact ⟨⟨_, rfl⟩, .inr ⟨_, ⟨knownC.drop 3, rfl⟩, hJx3⟩⟩
    · gi_wp2_with fail
      go_end0
      exact ⟨⟨_, rfl⟩, .inl ⟨_, rfl, hJs⟩⟩
    · omega

/-- no name of these -/
def NotIn (name : ByteArray) (pre : List CapE) : Prop := ∀ x ∈ pre, x.1 ≠ name
/-- the last of these is it -/
def LastIs (name : ByteArray) (B : Nat) (w : World) (pre : List CapE) (W : World) : Prop := ∃ (p0 : List CapE) (x : CapE), pre = p0 ++ [x] ∧ x.1 = name ∧ NotIn name p0 ∧ Boxed W (B + 1) 3 (.int .i64 x.2) ∧ Below B w W
theorem numV_none {name : ByteArray} (h : NotIn name knownC) : numV name.data.toList = 0#64 := by
  have ne : ∀ b : ByteArray, b ≠ name → name.data.toList ≠ b.data.toList := fun b hb e => hb (ba_ext e.symm)
  unfold numV
  rw [if_neg (show name.data.toList ≠ awayL from ne awayB (h (awayB, 1) (by simp [knownC]))), if_neg (show name.data.toList ≠ echoL from ne echoB (h (echoB, 2) (by simp [knownC]))), if_neg (show name.data.toList ≠ multiL from ne multiB (h (multiB, 4) (by simp [knownC])))]
theorem numV_last {name : ByteArray} {p0 r : List CapE} {x : CapE} (hp : (p0 ++ [x]) ++ r = knownC) (hx : x.1 = name) : (IV (numV name.data.toList)) = x.2 := by
  have hl := congrArg List.length hp
  subst hx
  rcases p0 with _ | ⟨a, _ | ⟨b, _ | ⟨c, p0⟩⟩⟩
  · simp [knownC] at hp; obtain ⟨rfl, _⟩ := hp; decide +kernel
  · simp [knownC] at hp; obtain ⟨_, rfl, _⟩ := hp; decide +kernel
  · simp [knownC] at hp; obtain ⟨_, _, rfl, _⟩ := hp; decide +kernel
  · simp [knownC] at hl

set_option maxRecDepth 100000 in
set_option maxHeartbeats 4000000 in
theorem number_any (name : ByteArray) (w : World) (hK : Known w) :
    Calls Tryd.prog 7 #[.string name] w fun e w' => e = .returned (.int .i64 (IV (numV name.data.toList))) ∧ Below w.heap.size w w' := by
  refine (callsIn_wide (n := 6)).1 ?_
  refine callsIn_of_wp_marks Tryd.func7 rfl trivial ?_ rfl
  simp only [Tryd.ntmps7, List.size_toArray, List.length_cons, List.length_nil, Nat.reduceAdd, Nat.reduceSub, Array.replicate_succ, Array.replicate_zero, List.push_toArray, List.append_toArray, List.nil_append, List.cons_append]
  gi_wp2_with fail
  refine ⟨trivial, ((callsIn_wide (n := 5)).2 (all_any _)).mono ?_⟩
  rintro e w2 ⟨rfl, hw2⟩
  have bN := (Boxed.new w 9 (.string name)).alloc (.cells #[.int .i64 0] 3)
  have bR := Boxed.new (w.alloc (.cells #[.string name] 9)) 3 (.int .i64 0)
  rw [World.size_alloc] at bR
  have hB2 : Below w.heap.size w w2 := by rw [hw2]; exact ((Below.refl _ w).alloc (Nat.le_refl _) _).alloc (by simp) _
  have hz : w2.heap.size = w.heap.size + 2 := by rw [hw2]; simp
  rw [← hw2] at bN bR
  obtain ⟨B, hBd⟩ : ∃ B, B = w.heap.size := ⟨_, rfl⟩
  rw [← hBd] at bN bR hz hB2 ⊢
  have HX := Lib.hid (And.intro hw2 hBd)
  have hlw : B ≤ w.heap.size := by omega
  have hK2 := hK.kept (by rw [← hBd]; exact hB2)
  clear hw2 hBd
  gi_wp2_with fail
  refine wpIn_rangeW (X := fun _ => False) (encs := encCap) (gf := 22) (lb := #[])
    (fun pre W => ((Boxed W B 9 (.string name) ∧ Boxed W (B + 1) 3 (.int .i64 0)) ∧ Below B w W) ∧ NotIn name pre)
    (fun c pre W => c = .ret ∧ LastIs name B w pre W)
    (fun x => { tmps := #[.string name, .pointer (some ⟨B, 0, none⟩), .pointer (some ⟨B + 1, 0, none⟩), .string x.1, .int .i64 x.2, .func (.func 22) #[] #[], .string x.1, .int .i64 x.2, undef, undef, undef, undef], defers := [] })
    rfl (all_stops 5 (by omega) w2 hK2) (Below.refl _ _) (fun _ h => h.elim) rfl (by omega) trivial (enters_of Tryd.func22 (by kernel_rfl) rfl) (fun _ => rfl)
    (OwnFrom.and (OwnFrom.and (Own.from (fun pre A C row hh hg hr => by
      have ne : ∀ {b : Nat} {t : TypeId} {v : Value}, Boxed A b t v → some b ≠ row := fun {b t v} h e => by
        obtain ⟨o, ho, hc⟩ := hr b e.symm
        rw [show A.heap[b]? = _ from h] at ho; cases ho; cases hc
      exact ⟨hh.1.kept hg (ne hh.1), hh.2.kept hg (ne hh.2)⟩) _) (ownFrom_below (by omega) (by omega))) (ownFrom_pure _ _))
    (fun _ _ _ _ h => h.elim)
    (fun c pre A C row hh hg hr => by
      obtain ⟨rfl, p0, x, e, hx, hn, hb, hB⟩ := hh
      have ne : some (B + 1) ≠ row := fun e => by
        obtain ⟨_, o, ho, hc⟩ := hr _ e.symm
        rw [show A.heap[B + 1]? = _ from hb] at ho; cases ho; cases hc
      exact ⟨rfl, p0, x, e, hx, hn, hb.kept hg ne, hB.grown hg (by have := hb.lt; omega) (fun k e => by have := (hr k e).1; omega)⟩)
    (fun _ _ _ _ _ h => h.elim)
    ⟨⟨⟨bN, bR⟩, hB2⟩, fun x h => by cases h⟩ ?assign ?body ?done ?stop
  case assign =>
    intro l x V K hKK
    gi_wp2
    exact hKK
  case body =>
    rintro l pre ⟨nm, v⟩ W ⟨⟨⟨b1, b2⟩, hB⟩, hN⟩ hlt
    have c1 := b1.cell
    have c2 := b2.cell
    have f2 := b2.frozen
    by_cases h : nm = name
    · have q : (nm.toList == name.toList) = true := by rw [h]; simp
      have H := Lib.hid h
      clear h
      gi_wp2_with fail
      exact ⟨(KeepsOthers.setCell _ _ _).from _, rfl, pre, (nm, v), rfl, H.out, hN, b2.set _, hB.setCell (p := ⟨B + 1, 0, none⟩) (show B ≤ B + 1 by omega) _⟩
    · have q : (nm.toList == name.toList) = false := by rw [beq_ba, beq_eq_false_iff_ne]; exact fun e => h (ba_ext e)
      have H := Lib.hid h
      clear h
      gi_wp2_with fail
      exact ⟨(KeepsOthers.refl _).from _, fun _ hb => hb.elim, ⟨⟨b1, b2⟩, hB⟩, fun x hx => by
        rcases List.mem_append.1 hx with hx | hx
        · exact hN x hx
        · rw [List.mem_singleton.1 hx]; exact H.out⟩
  case done =>
    rintro D xs V hD rfl ⟨⟨⟨b1, b2⟩, hB⟩, hN⟩ hKd
    have c2 := b2.cell
    have f2 := b2.frozen
    have hv := numV_none hN
    have HV := Lib.hid (And.intro hv hKd)
    clear hv hN
    have hK3 : (V.setCell ⟨B + 1, 0, none⟩ (.int .i64 0)).heap[D]? = some (.deferred (some [])) := (KeepsOthers.setCell V ⟨B + 1, 0, none⟩ (.int .i64 0)).same D _ hKd rfl
    have HK3 := Lib.hid hK3
    clear hK3 hKd
    gi_wp2_with fail
    refine ⟨by simp, .inl ⟨_, _, rfl, run_takeDeferred HK3.out, ?_⟩⟩
    have hB3 : Below w.heap.size w (V.setCell ⟨B + 1, 0, none⟩ (.int .i64 0)) := by
      rw [← HX.out.2]; exact hB.setCell (p := ⟨B + 1, 0, none⟩) (show B ≤ B + 1 by omega) _
    exact ⟨_, res_in rfl _ _ (B + 1) _ _ rfl (def_cell HK3.out _ (b2.set (.int .i64 0)).cell) Tryd.underlying3 rfl, by rw [HV.out.1]; rfl, hB3.trans (belowK_b (w := w) (Nat.le_refl _) _ D _ _ (by have := HX.out.2; omega) HK3.out rfl rfl)⟩
  case stop =>
    rintro D c pre V hD ⟨r, hS⟩ ⟨rfl, p0, x, rfl, hx, hn, hb, hB⟩ hKd
    have hv := numV_last hS hx
    have HV := Lib.hid (And.intro hv hKd)
    have cb := hb.cell
    clear hv hx hn hS hKd
    gi_wp2_with fail
    refine ⟨by simp, .inl ⟨_, _, rfl, run_takeDeferred HV.out.2, ?_⟩⟩
    have hB3 : Below w.heap.size w V := by rw [← HX.out.2]; exact hB
    exact ⟨_, res_in rfl _ _ (B + 1) _ _ rfl (def_cell HV.out.2 _ cb) Tryd.underlying3 rfl, by rw [HV.out.1], hB3.trans (belowK_b (w := w) (Nat.le_refl _) _ D _ _ (by have := HX.out.2; omega) HV.out.2 rfl rfl)⟩
end Go.Proofs.YtadojlmjapmbhaaDoor
