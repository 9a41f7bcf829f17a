/- Layer 18: the walk of ModesSeq. -/
import Derived.Test.YtbpnaclnninndaaModeL
import Derived.Sort.LoopGhostIn
namespace Go.Proofs.Ytbpnaclnninndaa
set_option linter.unusedVariables false
set_option linter.unusedSimpArgs false
open Go.RowKit Go.Shelf
attribute [local go_sem] Oper.semAt_some

/-- what stands behind some signs, and whether it is on -/
def sk (on : Bool) : List UInt8 → List UInt8 × Bool
  | [] => ([], on)
  | c :: r => if c = 43 then sk true r else if c = 45 then sk false r else (c :: r, on)
theorem seqL_nil {on : Bool} : ∀ {l : List UInt8}, (sk on l).1 = [] → seqL on l = []
  | [], _ => rfl
  | c :: r, h => by
    unfold sk at h
    unfold seqL
    split
    · rw [if_pos ‹_›] at h; exact seqL_nil h
    · rw [if_neg ‹_›] at h
      split
      · rw [if_pos ‹_›] at h; exact seqL_nil h
      · rw [if_neg ‹_›] at h; cases h
theorem seqL_cons {on : Bool} {b : UInt8} {t : List UInt8} : ∀ {l : List UInt8}, (sk on l).1 = b :: t → seqL on l = (b, (sk on l).2) :: seqL (sk on l).2 t
  | [], h => by cases h
  | c :: r, h => by
    unfold sk at h ⊢
    conv => lhs; unfold seqL
    split
    · rw [if_pos ‹_›] at h; exact seqL_cons h
    · rw [if_neg ‹_›] at h
      split
      · rw [if_pos ‹_›] at h; exact seqL_cons h
      · rw [if_neg ‹_›] at h
        have h : c :: r = b :: t := h
        injection h with h1 h2
        subst h1; subst h2; rfl
theorem sk_part (on : Bool) : ∀ l : List UInt8, ∃ p, l = p ++ (sk on l).1
  | [] => ⟨[], rfl⟩
  | c :: r => by
    unfold sk
    split
    · obtain ⟨p, h⟩ := sk_part true r; exact ⟨c :: p, by rw [List.cons_append, ← h]⟩
    · split
      · obtain ⟨p, h⟩ := sk_part false r; exact ⟨c :: p, by rw [List.cons_append, ← h]⟩
      · exact ⟨[], rfl⟩
theorem sk_nosign (on : Bool) : ∀ {l : List UInt8} {c : UInt8} {r : List UInt8}, (sk on l).1 = c :: r → c ≠ 43 ∧ c ≠ 45
  | [], _, _, h => by cases h
  | b :: l, c, r, h => by
    unfold sk at h
    split at h
    · exact sk_nosign true h
    · split at h
      · exact sk_nosign false h
      · have h : b :: l = c :: r := h
        injection h with h1 h2
        subst h1
        exact ⟨‹_›, ‹_›⟩
/-- where so many letters lead -/
def stN (st : List UInt8 × Bool) : Nat → List UInt8 × Bool
  | 0 => st
  | k + 1 => ((sk (stN st k).2 (stN st k).1).1.tail, (sk (stN st k).2 (stN st k).1).2)
theorem stN_part (st : List UInt8 × Bool) : ∀ k, ∃ p, st.1 = p ++ (stN st k).1
  | 0 => ⟨[], rfl⟩
  | k + 1 => by
    obtain ⟨p, h⟩ := stN_part st k
    obtain ⟨q, h2⟩ := sk_part (stN st k).2 (stN st k).1
    unfold stN
    cases hs : (sk (stN st k).2 (stN st k).1).1 with
    | nil => rw [hs] at h2; exact ⟨st.1, by simp⟩
    | cons c r => rw [hs] at h2; exact ⟨p ++ (q ++ [c]), by rw [h]; conv => lhs; rw [h2]
                                                            simp⟩
def posA (row : List UInt8) (k : Nat) : Nat := row.length - (stN (row, true) k).1.length
theorem stN_drop (row : List UInt8) (k : Nat) : (stN (row, true) k).1 = row.drop (posA row k) ∧ posA row k ≤ row.length := by
  obtain ⟨p, h⟩ := stN_part (row, true) k
  have h : row = p ++ (stN (row, true) k).1 := h
  have hl := congrArg List.length h
  rw [List.length_append] at hl
  have e : posA row k = p.length := by unfold posA; omega
  refine ⟨?_, by unfold posA; omega⟩
  rw [e]
  conv => rhs; rw [h]
  simp
/-- is this letter the next one? -/
def okx (st : List UInt8 × Bool) (x : Letter) : Bool := match (sk st.2 st.1).1 with
  | [] => false
  | c :: _ => c == x.1 && x.2 == (sk st.2 st.1).2
/-- are these the next letters? -/
def gdS (st : List UInt8 × Bool) : Nat → List Letter → Bool
  | _, [] => true
  | k, x :: r => okx (stN st k) x && gdS st (k + 1) r
theorem gdS_snoc (st : List UInt8 × Bool) (x : Letter) : ∀ (pre : List Letter) (k : Nat), gdS st k (pre ++ [x]) = (gdS st k pre && okx (stN st (k + pre.length)) x)
  | [], k => by simp [gdS]
  | y :: r, k => by
    have := gdS_snoc st x r (k + 1)
    simp only [List.cons_append, gdS, this, List.length_cons, Bool.and_assoc]
    rw [show k + 1 + r.length = k + (r.length + 1) by omega]
theorem gd_seq (st : List UInt8 × Bool) : ∀ (pre r : List Letter) (k : Nat), pre ++ r = seqL (stN st k).2 (stN st k).1 → gdS st k pre = true ∧ r = seqL (stN st (k + pre.length)).2 (stN st (k + pre.length)).1
  | [], r, k, h => ⟨rfl, h⟩
  | x :: p, r, k, h => by
    cases hs : (sk (stN st k).2 (stN st k).1).1 with
    | nil => rw [seqL_nil hs] at h; cases h
    | cons c t =>
      have h1 := seqL_cons hs
      rw [h1] at h
      simp only [List.cons_append] at h
      injection h with hx hr
      have e : stN st (k + 1) = (t, (sk (stN st k).2 (stN st k).1).2) := by
        show ((sk (stN st k).2 (stN st k).1).1.tail, _) = _
        rw [hs]; rfl
      have ih := gd_seq st p r (k + 1) (by rw [e]; exact hr)
      have hk : okx (stN st k) x = true := by
        unfold okx; rw [hs, hx]; simp
      refine ⟨by unfold gdS; rw [hk, ih.1]; rfl, ?_⟩
      rw [ih.2, List.length_cons, show k + 1 + p.length = k + (p.length + 1) by omega]
theorem seqL_mem_cons {st : List UInt8 × Bool} {pre : List Letter} {x : Letter} {r : List Letter} {k : Nat} (h : (pre ++ [x]) ++ r = seqL (stN st k).2 (stN st k).1) : (sk (stN st (k + pre.length)).2 (stN st (k + pre.length)).1).1 ≠ [] := by
  intro e
  have := (gd_seq st pre ([x] ++ r) k (by simpa using h)).2
  rw [seqL_nil e] at this
  cases this

theorem next_st (row : List UInt8) (pre : List Letter) (x : Letter) {c : UInt8} {t : List UInt8} (h : (sk (stN (row, true) pre.length).2 (stN (row, true) pre.length).1).1 = c :: t) :
    posA row (pre.length + 1) = row.length - t.length ∧ (stN (row, true) (pre.length + 1)).2 = (sk (stN (row, true) pre.length).2 (stN (row, true) pre.length).1).2 ∧ gdS (row, true) 0 (pre ++ [x]) = (gdS (row, true) 0 pre && (c == x.1 && x.2 == (sk (stN (row, true) pre.length).2 (stN (row, true) pre.length).1).2)) := by
  refine ⟨?_, rfl, ?_⟩
  · show row.length - (sk (stN (row, true) pre.length).2 (stN (row, true) pre.length).1).1.tail.length = _
    rw [h]; rfl
  · rw [gdS_snoc, Nat.zero_add]
    unfold okx
    rw [h]
theorem sk_at (s : ByteArray) (a : Nat) (o : Bool) (h : a < s.size) : sk o (s.data.toList.drop a) = if s[a] = 43 then sk true (s.data.toList.drop (a + 1)) else if s[a] = 45 then sk false (s.data.toList.drop (a + 1)) else (s[a] :: s.data.toList.drop (a + 1), o) := by
  rw [List.drop_eq_getElem_cons (by simpa using h)]; rfl
theorem sk_end (s : ByteArray) (o : Bool) : sk o (s.data.toList.drop s.size) = ([], o) := by
  rw [List.drop_of_length_le (by simp)]; rfl
theorem putDef_cell {W : World} {D b : Nat} {v : Value} (hK : W.heap[D]? = some (.deferred (some []))) (o' : Obj) (hc : W.cell? ⟨b, 0, none⟩ = some v) : (W.putObj D o').cell? ⟨b, 0, none⟩ = some v := by
  have hne : b ≠ D := by
    rintro rfl
    simp [World.cell?, hK] at hc
  exact (World.cell?_of_block (w := W) (a := ⟨b, 0, none⟩) (World.putObj_heap_other hne)).trans hc
theorem u8_eq (a b : UInt8) : ((a.toNat : Int) == (b.toNat : Int)) = (a == b) := by
  rw [Bool.eq_iff_iff, beq_iff_eq, beq_iff_eq]
  constructor
  · intro h; exact UInt8.toNat_inj.mp (by omega)
  · intro h; rw [h]

/-- a letter came where there is none -/
def LeftS (row : List UInt8) (pre : List Letter) : Prop := ∃ (p0 : List Letter) (x : Letter), pre = p0 ++ [x] ∧ (sk (stN (row, true) p0.length).2 (stN (row, true) p0.length).1).1 = []

theorem seq_notnil (W : World) (a : Value) : (binOp .eql 36 (.func (.func 20) #[] #[a]) .nilFunc).run Try.prog W = .ok (.bool false) W := by kernel_rfl
/-- a result that lies in a cell -/
theorem results_in {P : Program} {fn : Func} {p : Tmp} {ty : TypeId} (h : fn.results = #[.cell p ty]) (tmps : Array Value) (w : World) (g : Nat) (v : Value) (d : TypeDesc) (hp : tmps.getD p undef = .pointer (some ⟨g, 0, none⟩)) (hc : w.cell? ⟨g, 0, none⟩ = some v)
    (hu : P.underlying ty = some d) (hd : (match d with | .struct _ | .array _ _ => true | _ => false) = false) : (results fn tmps).run P w = .ok v w := by
  have hp' : tmps[p]?.getD undef = .pointer (some ⟨g, 0, none⟩) := by simpa using hp
  have hagg : (isAgg ty).run P w = .ok false w := by
    unfold isAgg
    rw [Sem.run_bind, run_underlying hu w]
    cases d <;> simp_all
  simp [results, h, hp', asAddr, loadVar, Sem.run_bind, hagg, go_sem, hc]
theorem row_at (s : ByteArray) (a : Nat) (h : a < s.size) : s.data.toList.drop a = s[a] :: s.data.toList.drop (a + 1) := by
  rw [List.drop_eq_getElem_cons (by simpa using h)]; rfl

set_option maxRecDepth 100000 in
set_option maxHeartbeats 4000000 in
theorem modesSeq_short (s : ByteArray) (hs : s.size ≤ 100) (w : World) : Calls Try.prog 6 #[.string s] w fun e w' => e = .returned (.bool true) ∧ Below w.heap.size w w' := by
  have hs1 : s.size ≤ 1000000 := by omega
  have hA : ¬ (100 : Int) < (s.size : Int) := by omega
  refine (callsIn_wide (n := 6)).1 ?_
  refine callsIn_of_wp_marks Try.func6 rfl trivial ?_ rfl
  simp only [Try.ntmps6, List.size_toArray, List.length_cons, List.length_nil, Nat.reduceAdd, Nat.reduceSub, Array.replicate_succ, Array.replicate_zero, List.push_toArray, List.append_toArray, List.nil_append, List.cons_append]
  gi_wp2_with fail
  refine ⟨trivial, ((callsIn_wide (n := 5)).2 (awake18 _)).mono ?_⟩
  rintro e w1 ⟨rfl, q1⟩
  have z1 : w.heap.size + 2 ≤ w1.heap.size := by simpa using q1.size
  have bS : Boxed w1 w.heap.size 9 (.string s) := (q1.block w.heap.size (by rw [World.size_alloc, World.size_alloc]; omega)).trans ((Boxed.new w 9 (.string s)).alloc _)
  have bR0 := Boxed.new (w.alloc (.cells #[.string s] 9)) 4 (.bool false)
  rw [World.size_alloc] at bR0
  have bR : Boxed w1 (w.heap.size + 1) 4 (.bool false) := (q1.block (w.heap.size + 1) (by simp)).trans bR0
  clear bR0
  have cS := bS.cell
  have l0 : w.heap.size < w1.heap.size := by omega
  have l1 : w.heap.size < w1.heap.size + 1 := by omega
  have l2 : w.heap.size < w1.heap.size + 1 + 1 := by omega
  gi_wp2_with fail
  refine ⟨trivial, ((callsIn_wide (n := 5)).2 (seq_any _ _)).mono ?_⟩
  rintro e w2 ⟨rfl, hw2⟩
  have bA := ((Boxed.new w1 3 (.int .i64 0)).alloc (.cells #[.bool true] 4)).alloc (.cells #[.bool true] 4)
  have bN := (Boxed.new (w1.alloc (.cells #[.int .i64 0] 3)) 4 (.bool true)).alloc (.cells #[.bool true] 4)
  have bG := Boxed.new ((w1.alloc (.cells #[.int .i64 0] 3)).alloc (.cells #[.bool true] 4)) 4 (.bool true)
  have bS3 := ((bS.alloc (.cells #[.int .i64 0] 3)).alloc (.cells #[.bool true] 4)).alloc (.cells #[.bool true] 4)
  have bR3 := ((bR.alloc (.cells #[.int .i64 0] 3)).alloc (.cells #[.bool true] 4)).alloc (.cells #[.bool true] 4)
  obtain ⟨V, hV⟩ : ∃ V, V = w1.heap.size := ⟨_, rfl⟩
  obtain ⟨B, hBs⟩ : ∃ B, B = w.heap.size := ⟨_, rfl⟩
  simp only [World.size_alloc] at bN bG ⊢
  have bA := bA.alloc (.cells #[.string s] 9)
  have bN := bN.alloc (.cells #[.string s] 9)
  have bG := bG.alloc (.cells #[.string s] 9)
  have bS4 := bS3.alloc (.cells #[.string s] 9)
  have bR4 := bR3.alloc (.cells #[.string s] 9)
  have bQ := Boxed.new (((w1.alloc (.cells #[.int .i64 0] 3)).alloc (.cells #[.bool true] 4)).alloc (.cells #[.bool true] 4)) 9 (.string s)
  simp only [World.size_alloc] at bQ
  have hB2 : Below w.heap.size w w2 := by
    rw [hw2]
    exact (((((((Below.refl _ w).alloc (Nat.le_refl _) _).alloc (by simp) _).trans (q1.mono (by simp; omega))).alloc (by omega) _).alloc (by simp; omega) _).alloc (by simp; omega) _).alloc (by simp; omega) _
  have hsz : w2.heap.size = w1.heap.size + 4 := by rw [hw2]; simp
  rw [← hw2] at bA bN bG bS4 bR4 bQ
  rw [← hV] at bA bN bG bQ hsz l0 l1 l2 z1 ⊢
  rw [← hBs] at bS4 bR4 l0 l1 l2 z1 hB2 ⊢
  have hle : V + 3 < w2.heap.size := by omega
  have hlw : B ≤ w.heap.size := by omega
  have HX := Lib.hid (And.intro hw2 (And.intro hsz (And.intro hV (And.intro hBs (And.intro q1 (And.intro bS (And.intro cS (And.intro bS3 (And.intro bR bR3)))))))))
  clear hw2 hsz hV hBs q1 bS cS bS3 bR bR3
  have hnn := seq_notnil
  gi_wp2_with fail
  clear hnn
  refine wpIn_rangeFunc_ownG rfl (by omega) (gf := 20) (lb := #[.pointer (some ⟨V + 1 + 1 + 1, 0, none⟩)]) rfl trivial (enters_of Try.func20 (by kernel_rfl) rfl)
    (seq_stops 5 (by omega) (V + 1 + 1 + 1) s w2 hs1 (by omega) bQ.cell) (fun h1 h2 => h2.trans h1) (fun W l o o' hl _ _ _ => World.putObj_heap_other (w := W) (by omega)) (Below.refl _ _) (fun _ => rfl)
    (fun pre W => (Boxed W B 9 (.string s) ∧ Boxed W (B + 1) 4 (.bool false) ∧ Boxed W V 3 (.int .i64 (posA s.data.toList pre.length)) ∧ Boxed W (V + 1) 4 (.bool (stN (s.data.toList, true) pre.length).2) ∧ Boxed W (V + 1 + 1) 4 (.bool (gdS (s.data.toList, true) 0 pre)) ∧ Boxed W (V + 1 + 1 + 1) 9 (.string s)) ∧ Below B w W)
    (fun _ pre _ => LeftS s.data.toList pre)
    (OwnFrom.and (Own.from (fun pre A C row hh hg hr => by
      have ne : ∀ {b : Nat} {t : TypeId} {v : Value}, Boxed A b t v → some b ≠ row := fun {b t v} h e => by
        obtain ⟨o, ho, hc⟩ := hr b e.symm
        rw [show A.heap[b]? = _ from h] at ho; cases ho; cases hc
      exact ⟨hh.1.kept hg (ne hh.1), hh.2.1.kept hg (ne hh.2.1), hh.2.2.1.kept hg (ne hh.2.2.1), hh.2.2.2.1.kept hg (ne hh.2.2.2.1), hh.2.2.2.2.1.kept hg (ne hh.2.2.2.2.1), hh.2.2.2.2.2.kept hg (ne hh.2.2.2.2.2)⟩) _) (ownFrom_below (by omega) (by omega)))
    (fun _ _ _ _ _ hs _ _ => hs)
    ⟨⟨bS4, bR4, by simpa [posA, stN] using bA, bN, bG, bQ⟩, hB2⟩
    (fun x => { tmps := #[.string s, .pointer (some ⟨B, 0, none⟩), .pointer (some ⟨B + 1, 0, none⟩), .pointer (some ⟨V, 0, none⟩), .pointer (some ⟨V + 1, 0, none⟩), .pointer (some ⟨V + 1 + 1, 0, none⟩), .func (.func 20) #[] #[.pointer (some ⟨V + 1 + 1 + 1, 0, none⟩)], .int .u8 x.1.toNat, .bool x.2,
      .bool true, .bool false, .string s, .int .i64 s.size, .bool (decide ((100 : Int) < s.size)), .string s, .func (.func 20) #[] #[.pointer (some ⟨V + 1 + 1 + 1, 0, none⟩)], .func (.func 20) #[] #[.pointer (some ⟨V + 1 + 1 + 1, 0, none⟩)], .bool false, .func (.func 20) #[] #[.pointer (some ⟨V + 1 + 1 + 1, 0, none⟩)], .int .u8 x.1.toNat, .bool x.2,
      undef, undef, undef, undef, undef, undef, undef, undef, undef, undef, undef, undef, undef, undef, undef, undef, undef, undef, undef, undef, undef, undef, undef, undef, undef, undef, undef, undef, undef, undef, undef, undef, undef, undef, undef, undef, undef, undef, undef, undef, undef, undef, undef, undef, undef, undef, undef, undef, undef, undef, undef, undef, undef, undef, undef, undef, undef, undef, undef, undef, undef, undef, undef, undef, undef, undef], defers := [] }) ?assign ?body ?done ?stop
  case assign =>
    intro l x W K hK
    gi_wp2
    exact hK
  case stop =>
    rintro D c pre W _ ⟨r, hS⟩ ⟨p0, x, rfl, hE⟩ _
    exact absurd hE (by have := seqL_mem_cons (st := (s.data.toList, true)) (pre := p0) (x := x) (r := r) (k := 0) hS; simpa using this)
  case done =>
    rintro D xs W hD hS ⟨⟨b1, b2, b3, b4, b5, b6⟩, hB⟩ hK
    have hd := gd_seq (s.data.toList, true) xs [] 0 (by rw [List.append_nil]; exact hS)
    rw [hd.1] at b5
    have hem := hd.2
    rw [Nat.zero_add] at hem
    obtain ⟨hdr, hpl⟩ := stN_drop s.data.toList xs.length
    have hsk : (sk (stN (s.data.toList, true) xs.length).2 (stN (s.data.toList, true) xs.length).1).1 = [] := by
      cases hs : (sk (stN (s.data.toList, true) xs.length).2 (stN (s.data.toList, true) xs.length).1).1 with
      | nil => rfl
      | cons c t => rw [seqL_cons hs] at hem; cases hem
    rw [hdr] at hsk
    obtain ⟨p, hp⟩ : ∃ p, posA s.data.toList xs.length = p := ⟨_, rfl⟩
    rw [hp] at hsk b3 hpl
    have hpl : p ≤ s.size := by simpa using hpl
    have HS := Lib.hid hsk
    have HD := Lib.hid (And.intro hS (And.intro hB hK))
    have c3 := b3.cell
    have c1 := b1.cell
    clear hd hem hdr hsk hp hS hK b4 b6 hB
    gi_wp2_with fail
    gi_loopg [62] (s.size - p) (fun r _ wr => ∃ (a : Nat) (o1 : Bool), r + a = s.size ∧ Hid ((sk o1 (s.data.toList.drop a)).1 = []) ∧ Boxed wr B 9 (.string s) ∧ Boxed wr (B + 1) 4 (.bool false) ∧ Boxed wr V 3 (.int .i64 a) ∧ Boxed wr (V + 1 + 1) 4 (.bool true) ∧ Hid (KeepsOthers W wr ∧ Below B w wr))
    case atStart => exact ⟨p, _, by omega, HS, b1, b2, b3, b5, KeepsOthers.refl _, HD.out.2.1⟩
    case round =>
      obtain ⟨a, o1, hr, HSa, d1, d2, d3, d5, HK⟩ := hrel
      have hle2 : a ≤ s.size := by omega
      have HR := Lib.hid hr
      clear hr c1 c3 b1 b2 b3 b5
      have e1 := d1.cell; have e3 := d3.cell; have f3 := d3.frozen; have e2 := d2.cell; have f2 := d2.frozen; have e5 := d5.cell
      by_cases hlt2 : a < s.size
      · have hst := sk_at s a o1 hlt2
        by_cases h43 : s[a] = 43
        · have q1 : ((s[a].toNat : Int) == 43) = true := by rw [h43]; rfl
          have HN : Hid ((sk true (s.data.toList.drop (a + 1))).1 = []) := by
            have := HSa.out; rw [hst, if_pos h43] at this; exact this
          clear h43 hst
          gi_wp2_with fail
          gi_roundg (gk - 1)
          case measure => have := HR.out; omega
          case rel => exact ⟨a + 1, true, by have := HR.out; omega, HN, d1.other (by omega) _, d2.other (by omega) _, by simpa using d3.set (.int .i64 (a + 1)), d5.other (by omega) _, HK.out.1.trans (KeepsOthers.setCell _ _ _), HK.out.2.setCell (p := ⟨V, 0, none⟩) (show B ≤ V by omega) _⟩
        · have q1 : ((s[a].toNat : Int) == 43) = false := by rw [show (43 : Int) = ((43 : UInt8).toNat : Int) from rfl, u8_eq]; simpa using h43
          have h45 : s[a] = 45 := by
            by_cases h : s[a] = 45
            · exact h
            · have := HSa.out; rw [hst, if_neg h43, if_neg h] at this; cases this
          have q2 : ((s[a].toNat : Int) == 45) = true := by rw [h45]; rfl
          have HN : Hid ((sk false (s.data.toList.drop (a + 1))).1 = []) := by
            have := HSa.out; rw [hst, if_neg h43, if_pos h45] at this; exact this
          clear h43 h45 hst
          gi_wp2_with fail
          gi_roundg (gk - 1)
          case measure => have := HR.out; omega
          case rel => exact ⟨a + 1, false, by have := HR.out; omega, HN, d1.other (by omega) _, d2.other (by omega) _, by simpa using d3.set (.int .i64 (a + 1)), d5.other (by omega) _, HK.out.1.trans (KeepsOthers.setCell _ _ _), HK.out.2.setCell (p := ⟨V, 0, none⟩) (show B ≤ V by omega) _⟩
      · obtain rfl : a = s.size := by omega
        have hp1 : ¬ ((s.size : Int) < (s.size : Int)) := by omega
        gi_wp2_with fail
        have hK2 : (wr.setCell ⟨B + 1, 0, none⟩ (.bool true)).heap[D]? = some (.deferred (some [])) := (KeepsOthers.setCell wr ⟨B + 1, 0, none⟩ (.bool true)).same D _ (HK.out.1.same D _ HD.out.2.2 rfl) rfl
        refine ⟨by simp, .inl ⟨_, _, rfl, run_takeDeferred hK2, ?_⟩⟩
        have hB3 : Below w.heap.size w (wr.setCell ⟨B + 1, 0, none⟩ (.bool true)) := by
          rw [← HX.out.2.2.2.1]; exact HK.out.2.setCell (p := ⟨B + 1, 0, none⟩) (show B ≤ B + 1 by omega) _
        refine ⟨.bool true, results_in rfl _ _ (B + 1) _ _ rfl (putDef_cell hK2 _ (d2.set (.bool true)).cell) Try.underlying4 rfl, rfl, hB3.trans (belowK_b (w := w) (Nat.le_refl _) _ D _ _ (by have := HX.out.2.1; have := HX.out.2.2.2.1; omega) hK2 rfl rfl)⟩
  case body =>
    rintro l pre ⟨c, o⟩ W ⟨⟨b1, b2, b3, b4, b5, b6⟩, hB⟩ hlt
    obtain ⟨hdr, hpl⟩ := stN_drop s.data.toList pre.length
    have hnx := fun (c' : UInt8) (t' : List UInt8) => next_st s.data.toList pre (c, o) (c := c') (t := t')
    obtain ⟨SK, hSK⟩ : ∃ SK, sk (stN (s.data.toList, true) pre.length).2 (stN (s.data.toList, true) pre.length).1 = SK := ⟨_, rfl⟩
    have hst0 := hSK
    rw [hdr] at hSK
    obtain ⟨p, hp⟩ : ∃ p, posA s.data.toList pre.length = p := ⟨_, rfl⟩
    rw [hp] at hSK b3 hpl
    obtain ⟨o0, ho0⟩ : ∃ o0, (stN (s.data.toList, true) pre.length).2 = o0 := ⟨_, rfl⟩
    obtain ⟨gd, hgd⟩ : ∃ gd, gdS (s.data.toList, true) 0 pre = gd := ⟨_, rfl⟩
    rw [hst0, hgd] at hnx
    rw [ho0] at hSK b4
    rw [hgd] at b5
    have hpl : p ≤ s.size := by simpa using hpl
    have HNX := Lib.hid hnx
    have HE := Lib.hid (And.intro hst0 (And.intro hB b6))
    have HS := Lib.hid hSK
    have c1 := b1.cell
    have c3 := b3.cell
    clear hdr hnx hst0 hSK hp ho0 hgd hB
    gi_wp2_with fail
    gi_loopg [21] (s.size - p) (fun r _ wr => ∃ (a : Nat) (o1 : Bool), r + a = s.size ∧ Hid (sk o1 (s.data.toList.drop a) = SK) ∧ Boxed wr B 9 (.string s) ∧ Boxed wr (B + 1) 4 (.bool false) ∧ Boxed wr V 3 (.int .i64 a) ∧ Boxed wr (V + 1) 4 (.bool o1) ∧ Boxed wr (V + 1 + 1) 4 (.bool gd) ∧ Boxed wr (V + 1 + 1 + 1) 9 (.string s) ∧ Hid (KeepsOthers W wr ∧ Below B W wr))
    case atStart => exact ⟨p, o0, by omega, HS, b1, b2, b3, b4, b5, b6, KeepsOthers.refl _, Below.refl _ _⟩
    case round =>
      obtain ⟨a, o1, hr, HSa, d1, d2, d3, d4, d5, d6, HK⟩ := hrel
      have hle2 : a ≤ s.size := by omega
      have HR := Lib.hid hr
      clear hr c1 c3 b1 b2 b3 b4 b5 b6
      have e1 := d1.cell; have e3 := d3.cell; have f3 := d3.frozen; have e2 := d2.cell; have f2 := d2.frozen; have e4 := d4.cell; have f4 := d4.frozen; have e5 := d5.cell; have f5 := d5.frozen
      by_cases hlt2 : a < s.size
      · have hst := sk_at s a o1 hlt2
        by_cases h43 : s[a] = 43
        · have q1 : ((s[a].toNat : Int) == 43) = true := by rw [h43]; rfl
          have HN : Hid (sk true (s.data.toList.drop (a + 1)) = SK) := by
            have := HSa.out; rw [hst, if_pos h43] at this; exact this
          clear h43 hst
          gi_wp2_with fail
          gi_roundg (gk - 1)
          case measure => have := HR.out; omega
          case rel => exact ⟨a + 1, true, by have := HR.out; omega, HN, (d1.other (by omega) _).other (by omega) _, (d2.other (by omega) _).other (by omega) _, by simpa using (d3.other (B' := V + 1) (by omega) (.bool true)).set (.int .i64 (a + 1)), (d4.set _).other (by omega) _, (d5.other (by omega) _).other (by omega) _, (d6.other (by omega) _).other (by omega) _,
            (HK.out.1.trans (KeepsOthers.setCell _ _ _)).trans (KeepsOthers.setCell _ _ _), (HK.out.2.setCell (p := ⟨V + 1, 0, none⟩) (show B ≤ V + 1 by omega) _).setCell (p := ⟨V, 0, none⟩) (show B ≤ V by omega) _⟩
        · have q1 : ((s[a].toNat : Int) == 43) = false := by rw [show (43 : Int) = ((43 : UInt8).toNat : Int) from rfl, u8_eq]; simpa using h43
          by_cases h45 : s[a] = 45
          · have q2 : ((s[a].toNat : Int) == 45) = true := by rw [h45]; rfl
            have HN : Hid (sk false (s.data.toList.drop (a + 1)) = SK) := by
              have := HSa.out; rw [hst, if_neg h43, if_pos h45] at this; exact this
            clear h43 h45 hst
            gi_wp2_with fail
            gi_roundg (gk - 1)
            case measure => have := HR.out; omega
            case rel => exact ⟨a + 1, false, by have := HR.out; omega, HN, (d1.other (by omega) _).other (by omega) _, (d2.other (by omega) _).other (by omega) _, by simpa using (d3.other (B' := V + 1) (by omega) (.bool false)).set (.int .i64 (a + 1)), (d4.set _).other (by omega) _, (d5.other (by omega) _).other (by omega) _, (d6.other (by omega) _).other (by omega) _,
              (HK.out.1.trans (KeepsOthers.setCell _ _ _)).trans (KeepsOthers.setCell _ _ _), (HK.out.2.setCell (p := ⟨V + 1, 0, none⟩) (show B ≤ V + 1 by omega) _).setCell (p := ⟨V, 0, none⟩) (show B ≤ V by omega) _⟩
          · have q2 : ((s[a].toNat : Int) == 45) = false := by rw [show (45 : Int) = ((45 : UInt8).toNat : Int) from rfl, u8_eq]; simpa using h45
            have hfin : SK = (s[a] :: s.data.toList.drop (a + 1), o1) := by
              have := HSa.out; rw [hst, if_neg h43, if_neg h45] at this; exact this.symm
            obtain ⟨n1, n2, n3⟩ := HNX.out s[a] (s.data.toList.drop (a + 1)) (by rw [hfin])
            have hpa : posA s.data.toList (pre.length + 1) = a + 1 := by
              rw [n1]; simp; omega
            rw [hfin] at n2 n3
            simp only at n2 n3
            have HF := Lib.hid (And.intro hpa (And.intro n2 n3))
            have hp3 : ¬ ((a : Int) ≥ (s.size : Int)) := by omega
            have hp4 : (a : Int) < (s.size : Int) := by omega
            have hlen : (pre ++ [(c, o)]).length = pre.length + 1 := by simp
            have HL := Lib.hid hlen
            clear h43 h45 hst n1 n2 n3 hpa hfin hlen
            have close : ∀ (b : Bool), b = (gd && (s[a] == c && o == o1)) →
                KeepsFrom w2.heap.size W ((wr.setCell ⟨V + 1 + 1, 0, none⟩ (.bool b)).setCell ⟨V, 0, none⟩ (.int .i64 (a + 1))) ∧ KeptAt (V + 1 + 1 + 1) W ((wr.setCell ⟨V + 1 + 1, 0, none⟩ (.bool b)).setCell ⟨V, 0, none⟩ (.int .i64 (a + 1))) ∧
                (Boxed ((wr.setCell ⟨V + 1 + 1, 0, none⟩ (.bool b)).setCell ⟨V, 0, none⟩ (.int .i64 (a + 1))) B 9 (.string s) ∧ Boxed ((wr.setCell ⟨V + 1 + 1, 0, none⟩ (.bool b)).setCell ⟨V, 0, none⟩ (.int .i64 (a + 1))) (B + 1) 4 (.bool false) ∧
                  Boxed ((wr.setCell ⟨V + 1 + 1, 0, none⟩ (.bool b)).setCell ⟨V, 0, none⟩ (.int .i64 (a + 1))) V 3 (.int .i64 (posA s.data.toList (pre ++ [(c, o)]).length)) ∧ Boxed ((wr.setCell ⟨V + 1 + 1, 0, none⟩ (.bool b)).setCell ⟨V, 0, none⟩ (.int .i64 (a + 1))) (V + 1) 4 (.bool (stN (s.data.toList, true) (pre ++ [(c, o)]).length).2) ∧
                  Boxed ((wr.setCell ⟨V + 1 + 1, 0, none⟩ (.bool b)).setCell ⟨V, 0, none⟩ (.int .i64 (a + 1))) (V + 1 + 1) 4 (.bool (gdS (s.data.toList, true) 0 (pre ++ [(c, o)]))) ∧ Boxed ((wr.setCell ⟨V + 1 + 1, 0, none⟩ (.bool b)).setCell ⟨V, 0, none⟩ (.int .i64 (a + 1))) (V + 1 + 1 + 1) 9 (.string s)) ∧
                Below B w ((wr.setCell ⟨V + 1 + 1, 0, none⟩ (.bool b)).setCell ⟨V, 0, none⟩ (.int .i64 (a + 1))) := fun b hb => by
              refine ⟨((HK.out.1.trans (KeepsOthers.setCell _ _ _)).trans (KeepsOthers.setCell _ _ _)).from _, ((d6.other (by omega) _).other (by omega) _).trans HE.out.2.2.symm, ⟨(d1.other (by omega) _).other (by omega) _, (d2.other (by omega) _).other (by omega) _, ?_, ?_, ?_, (d6.other (by omega) _).other (by omega) _⟩, HE.out.2.1.trans ((HK.out.2.setCell (p := ⟨V + 1 + 1, 0, none⟩) (show B ≤ V + 1 + 1 by omega) _).setCell (p := ⟨V, 0, none⟩) (show B ≤ V by omega) _)⟩
              · rw [HL.out, HF.out.1]; simpa using (d3.other (B' := V + 1 + 1) (by omega) (.bool b)).set (.int .i64 (a + 1))
              · rw [HL.out, HF.out.2.1]; exact (d4.other (by omega) _).other (by omega) _
              · rw [HF.out.2.2, ← hb]; exact (d5.set _).other (by omega) _
            have HC := Lib.hid close
            clear close
            have hu := u8_eq s[a] c
            cases gd with
            | false =>
              clear hu
              gi_wp2_with fail
              exact HC.out false (by simp)
            | true =>
              cases hcc : (s[a] == c) with
              | false =>
                rw [hcc] at hu
                have HCC := Lib.hid hcc
                clear hcc
                gi_wp2_with fail
                exact HC.out false (by rw [HCC.out]; rfl)
              | true =>
                rw [hcc] at hu
                have HCC := Lib.hid hcc
                clear hcc
                gi_wp2_with fail
                exact HC.out (o == o1) (by rw [HCC.out]; simp)
      · obtain rfl : a = s.size := by omega
        have hfin : SK.1 = [] := by have := HSa.out; rw [sk_end] at this; rw [← this]
        have HF := Lib.hid hfin
        have hp1 : ¬ ((s.size : Int) < (s.size : Int)) := by omega
        clear hfin
        gi_wp2_with fail
        exact ⟨(HK.out.1.trans (KeepsOthers.setCell _ _ _)).from _, pre, (c, o), rfl, by rw [HE.out.1]; exact HF.out⟩

theorem modesSeq_walk (s : ByteArray) (hs : s.size ≤ maxLen) (w : World) : Calls Try.prog 6 #[.string s] w fun e w' => e = .returned (.bool true) ∧ Below w.heap.size w w' := by
  unfold maxLen at hs
  by_cases h : s.size ≤ 100
  · exact modesSeq_short s h w
  · have h2 : (100 : Int) < s.size := by omega
    refine (callsIn_wide (n := 6)).1 ?_
    refine callsIn_of_wp_marks Try.func6 rfl trivial ?_ rfl
    simp only [Try.ntmps6, List.size_toArray, List.length_cons, List.length_nil, Nat.reduceAdd, Nat.reduceSub, Array.replicate_succ, Array.replicate_zero, List.push_toArray, List.append_toArray, List.nil_append, List.cons_append]
    gi_wp2_with fail
    refine ⟨trivial, ((callsIn_wide (n := 5)).2 (awake18 _)).mono ?_⟩
    rintro e w1 ⟨rfl, q1⟩
    have bS : Boxed w1 w.heap.size 9 (.string s) := (q1.block w.heap.size (by rw [World.size_alloc, World.size_alloc]; omega)).trans ((Boxed.new w 9 (.string s)).alloc _)
    have bR0 := Boxed.new (w.alloc (.cells #[.string s] 9)) 4 (.bool false)
    rw [World.size_alloc] at bR0
    have bR : Boxed w1 (w.heap.size + 1) 4 (.bool false) := (q1.block (w.heap.size + 1) (by simp)).trans bR0
    have hB : Below w.heap.size w w1 := (((Below.refl _ w).alloc (Nat.le_refl _) _).alloc (by simp) _).trans (q1.mono (by simp; omega))
    have H := Lib.hid hB
    have cS := bS.cell
    have cR := bR.cell
    have fR := bR.frozen
    clear bR0 q1 hB
    gi_wp2_with fail
    exact ⟨_, results_in rfl _ _ (w.heap.size + 1) _ _ rfl (bR.set (.bool true)).cell Try.underlying4 rfl, rfl, H.out.setCell (p := ⟨w.heap.size + 1, 0, none⟩) (show w.heap.size ≤ w.heap.size + 1 by omega) _⟩
end Go.Proofs.Ytbpnaclnninndaa
