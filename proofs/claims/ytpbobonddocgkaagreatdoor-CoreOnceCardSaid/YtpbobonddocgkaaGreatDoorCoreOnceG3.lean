/- Texts of this proof, one behind the other. -/
import Derived.Test.YtpbobonddocgkaaGreatDoorCoreOnceG2
import Derived.Sort.LoopGhostIn
import Derived.OwnWalk
import Derived.Below
import Derived.Laws.AppendOwn
import Derived.Laws.OwnMore
import Derived.Laws.BytesArg
import Derived.Test.YtpbobonddocgkaaGreatDoorCoreOnceG1
import Derived.OwnWalkIn
set_option linter.unusedVariables false
set_option linter.unusedSimpArgs false
section
/- Layer 10: what tells a row of numbers, as a function that ranges: slices.Values; All. -/
namespace Go.Proofs.YtpbobonddocgkaaGreatDoor
open Go Go.RowKit Go.Lib Go.Sort Go.Shelf

def encI (x : Int) : Array Value := #[.int .i64 x]
/-- the blocks of a tale -/
def rowY (B : Nat) (v : Value) : Nat → Prop := fun b => b = B ∨ v.ownBlock = some b
set_option maxRecDepth 100000 in
set_option maxHeartbeats 4000000 in
theorem values_tells (n : Nat) (hn : 2 ≤ n) (base B : Nat) (v : Value) (xs : List Int) (w : World) (hxs : xs.length ≤ 1000000) (hb : w.heap[B]? = some (.cells #[v] 53 (0, 0))) (hr : OwnI base w v xs) :
    SeqT Fence.wide n Tryz.prog 134 #[.pointer (some ⟨B, 0, none⟩)] encI (fun _ => False) (rowY B v) xs w := fun l J Jx V hV hJ hJx hY h0 => by
  have hbV := (hV.block B (blk_lt hb)).trans hb
  have c0 : V.cell? ⟨B, 0, none⟩ = some v := (blk_cell hbV 0).trans rfl
  have hrV : OwnI base V v xs := own_kept hr fun g hg => hV.block g (hr.lt g hg).2
  obtain ⟨A, c, rfl⟩ := row_slice hr
  have HR := Lib.hid hrV
  have HB := Lib.hid hbV
  have HY := Lib.hid hY
  have HJ := Lib.hid hJ
  have HJx := Lib.hid hJx
  clear hb hr hV hrV hbV hY hJ hJx
  refine callsIn_of_wp Tryz.func134 rfl trivial ?_ rfl
  simp only [Tryz.ntmps134, List.size_toArray, List.length_cons, List.length_nil, Nat.reduceAdd, Nat.reduceSub, Array.replicate_succ, Array.replicate_zero, List.push_toArray, List.append_toArray, List.nil_append, List.cons_append]
  gi_wp2
  gi_loopw [7] (fun c1 wr => ∃ k : Nat, c1 = .int .i64 k ∧ k ≤ xs.length ∧ Hid (SameX (rowY B (.slice A xs.length c)) V wr) ∧ Hid (J (xs.take k) wr)) (fun c1 _ => xs.length - (Go.RowKit.intOf c1).toNat)
  case atStart => exact ⟨0, rfl, Nat.zero_le _, fun _ _ => rfl, h0⟩
  case round =>
    obtain ⟨k, rfl, hk, HS, HJk⟩ := hrel
    by_cases hlt : k < xs.length
    · obtain ⟨g, cap, cur, hAs, hg2, ht⟩ : ∃ g cap cur, Value.slice A xs.length c = .slice (some ⟨g, 0, none⟩) xs.length cap ∧ V.heap[g]? = some (.cells cur 3 (0, 0)) ∧ cur.toList.take xs.length = xs.map (Value.int .i64) := by
        rcases HR.out.2 with ⟨h1, h2⟩ | ⟨g, cap, cur, h1, _, h3, _, _, _, h6⟩
        · omega
        · rw [Nat.mul_one] at h6; exact ⟨g, cap, cur, h1, h3, h6⟩
      cases hAs
      obtain ⟨x, hx⟩ : ∃ x, xs[k] = x := ⟨_, rfl⟩
      have e0 : wr.cell? ⟨g, k, none⟩ = some (.int .i64 x) := by
        rw [HS.out.cell (b := g) (o := k) (.inr rfl), blk_cell hg2, own_get (base := 0) (w := V) (cap := 0) hg2 ht k hlt, hx]
      have hsp : xs.take k ++ x :: xs.drop (k + 1) = xs := by rw [← hx, ← List.drop_eq_getElem_cons hlt]; exact List.take_append_drop k xs
      have htk : xs.take (k + 1) = xs.take k ++ [x] := by rw [List.take_succ_eq_append_getElem hlt, hx]
      have HT := Lib.hid htk
      have HSP := Lib.hid hsp
      have hyy := HY.out (xs.take k) x (xs.drop (k + 1)) wr hsp HJk.out
      obtain ⟨fn, tmps, assign, body, hy, hR⟩ := hyy
      dsimp only [encI] at hy
      clear hx htk hsp hg2 ht
      gi_wp2_with fail
      refine ⟨fun _ => by omega, hR.mono ?_⟩
      rintro e W3 (⟨rfl, hJ3, hK3⟩ | ⟨rfl, hJx3⟩)
      · have hS3 : Hid (SameX (rowY B (.slice (some ⟨g, 0, none⟩) xs.length c)) V W3) := HS.out.trans hK3
        rw [← HT.out] at hJ3
        have HJ3 := Lib.hid hJ3
        clear hJ3 hK3 hR hy
        gi_wp2_with fail
        go_roundw
        case rel => exact ⟨k + 1, by go_num, by omega, hS3, HJ3⟩
        case measure => simp [Go.RowKit.intOf]; omega
      · clear hR hy
        gi_wp2_with fail
        refine bodyPost_ret (results_none rfl _ _ _) rfl ?_
        exact ⟨⟨_, rfl⟩, .inr ⟨_, xs.drop (k + 1), by simpa using HSP.out, hJx3⟩⟩
    · obtain rfl : k = xs.length := by omega
      gi_wp2_with fail
      go_end0
      have hj := HJk.out
      rw [List.take_length] at hj
      exact ⟨⟨_, rfl⟩, .inl hj⟩

/-- a tale of numbers, handed back -/
def ValsP (v : Value) (w : World) (e : Ending) (w' : World) : Prop :=
  e = .returned (.func (.func 134) #[] #[.pointer (some ⟨w.heap.size, 0, none⟩)]) ∧ w'.heap[w.heap.size]? = some (.cells #[v] 53 (0, 0)) ∧ Below w.heap.size w w'
theorem values_calls (A : Option Addr) (l c : Nat) (w : World) : Calls Tryz.prog 107 #[.slice A l c] w (ValsP (.slice A l c) w) := by
  go_enter Tryz.func107, Tryz.ntmps107
  go_wp2_with fail
  go_ret
  exact ⟨rfl, heap_alloc_new _ _, (Below.refl _ _).alloc (Nat.le_refl _) _⟩
/-- what tells xs: a tale, its box, the value in it -/
def TaleAt (base : Nat) (w : World) (F : Value) (xs : List Int) : Prop := ∃ B v, base ≤ B ∧ F = .func (.func 134) #[] #[.pointer (some ⟨B, 0, none⟩)] ∧ w.heap[B]? = some (.cells #[v] 53 (0, 0)) ∧ v.ownBlock ≠ some B ∧ OwnI base w v xs
theorem tale_below {base : Nat} {w W : World} {F : Value} {xs : List Int} (h : TaleAt base w F xs) {n : Nat} (hb : Below n w W) (hn : w.heap.size ≤ n) : TaleAt base W F xs := by
  obtain ⟨B, v, h0, h1, h2, h3, h4⟩ := h
  exact ⟨B, v, h0, h1, (hb.block _ (Nat.lt_of_lt_of_le (blk_lt h2) hn)).trans h2, h3, own_kept h4 fun g hg => hb.block g (Nat.lt_of_lt_of_le (h4.lt g hg).2 hn)⟩
def AllP (xs : List Int) (w : World) (e : Ending) (w' : World) : Prop := (∃ F, e = .returned F ∧ TaleAt w.heap.size w' F xs) ∧ Below w.heap.size w w'
theorem all_of {xs : List Int} {w w1 w2 : World} {v : Value} {e : Ending} (h1 : OwnI w.heap.size w1 v xs) (h2 : Below w.heap.size w w1) (h3 : ValsP v w1 e w2) : AllP xs w e w2 := by
  obtain ⟨rfl, a, b⟩ := h3
  refine ⟨⟨_, rfl, _, v, h2.size, rfl, a, fun e => ?_, own_kept h1 fun g hg => b.block g (h1.lt g hg).2⟩, h2.trans (b.mono h2.size)⟩
  have := (h1.lt _ e).2
  omega
theorem own_nil (base : Nat) (w : World) : OwnI base w (.slice none 0 0) [] := World.ownsRow_nil _ _ _ _
theorem set_all_nil (w : World) : Calls Tryz.prog 112 #[.pointer none] w (AllP [] w) := by
  have h1 := set_list_nil w
  have h2 := values_calls none 0 0 w
  go_enter Tryz.func112, Tryz.ntmps112
  go_wp2_with fail
  refine h1.mono ?_
  rintro e w1 ⟨rfl, rfl⟩
  go_wp2_with fail
  refine h2.mono ?_
  intro e w2 h
  have hx := all_of (own_nil _ _) (Below.refl _ _) h
  obtain ⟨⟨F, rfl, h4⟩, h5⟩ := hx
  have H := Lib.hid (And.intro h4 h5)
  clear h h4 h5
  go_wp2_with fail
  go_ret
  exact ⟨⟨_, rfl, H.out.1⟩, H.out.2⟩
theorem set_all {base : Nat} {w : World} {s : Nat} {ob : Option Nat} {xs : List Int} (h : SetAt base w s ob xs) (hl : xs.length ≤ 1000000) :
    Calls Tryz.prog 112 #[.pointer (some ⟨s, 0, none⟩)] w (AllP xs w) := by
  have H := Lib.hid (set_list h hl)
  clear h
  go_enter Tryz.func112, Tryz.ntmps112
  go_wp2_with fail
  refine H.out.mono ?_
  rintro e w1 ⟨⟨v', rfl, h1⟩, h2⟩
  obtain ⟨A', c', rfl⟩ := row_slice h1
  have HV := values_calls A' xs.length c' w1
  have HH := Lib.hid (And.intro h1 h2)
  clear h1 h2
  go_wp2_with fail
  refine HV.mono ?_
  intro e w2 h
  obtain ⟨⟨F, rfl, h4⟩, h5⟩ := all_of HH.out.1 HH.out.2 h
  have H2 := Lib.hid (And.intro h4 h5)
  clear h h4 h5
  go_wp2_with fail
  go_ret
  exact ⟨⟨_, rfl, H2.out.1⟩, H2.out.2⟩
end Go.Proofs.YtpbobonddocgkaaGreatDoor
end
section
/- A slice of the call's own: one element more; rows of booleans; a store into a row. -/
namespace Go.Proofs.YtpbobonddocgkaaGreatDoor
open Go Go.RowKit

theorem cells_new (W : World) (cs : Array Value) (e : TypeId) : ∀ j u, cs.toList[j]? = some u → (W.alloc (.cells cs e)).cell? ((⟨W.heap.size, 0, none⟩ : Addr).add j) = some u := by
  intro j u hu
  have hadd : (⟨W.heap.size, 0, none⟩ : Addr).add j = ⟨W.heap.size, j, none⟩ := by unfold Addr.add; split <;> simp_all
  rw [hadd, cell_of_row _ W.heap.size j cs e (0, 0) (heap_alloc_new W _)]
  simpa using hu

/-- 'out = append(out, x)': x lies in the newest block. -/
theorem wpList_app_one {P : Program} {W w0 : World} {ops : Array Oper} {rest : List Oper} {o : Oper} {a : Act} {Q : Exit → Act → World → Prop} (hgd : o.guard = none) (s x : Operand) (t : TypeId)
    (ho : o.op = .call { callee := .builtin .append, args := #[s, x], argTypes := #[t, t] })
    (base : Nat) (e : TypeId) (i : TypeInfo) (z : Value) (size bytes : Nat) (ht : P.underlying t = some (.slice e)) (hi : P.info? e = some i) (hz : i.zero = some z)
    (hsize : i.size = size) (hby : i.bytes = bytes) (hzs : z.cells.size = size) (hsz : 0 < size)
    (v : Value) (n : Nat) (xs : List Value) (hs : a.eval s = v) (hown : W.ownsRow base e size v n xs)
    (cs : Array Value) (hx : a.eval x = .slice (some ⟨W.heap.size, 0, none⟩) 1 1) (hl : cs.size = size) (h1 : ∀ u ∈ cs.toList, u.oneCell' = true)
    (hn : n ≤ 1000000000) (hbs : bytes ≤ 1000) (hB : Below base w0 W) (hbase : base ≤ W.heap.size)
    (h : ∀ v' w', w'.ownsRow base e size v' (n + 1) (xs ++ cs.toList) → Below base w0 w' → base ≤ w'.heap.size → wpList P ops Q rest (a.put o.dst v') w') : wpList P ops Q (o :: rest) a (W.alloc (.cells cs e)) := by
  have hnb : (n + 1) * bytes ≤ 140737488355328 := Nat.le_trans (Nat.mul_le_mul (show n + 1 ≤ 1000000001 by omega) hbs) (by decide)
  refine wpList_append_own _ hgd s x t ho base e i z size bytes ht hi hz hsize hby hzs hsz v n xs hs (hown.alloc _) ⟨W.heap.size, 0, none⟩ 1 1 cs.toList hx (by simpa using hl) (cells_new W cs e) h1 (by unfold maxLen; omega) hnb (by simp; omega) ?_
  intro v' w' hown' hgrow _
  have hsz' := hgrow.size
  rw [World.size_alloc] at hsz'
  refine h v' w' hown' ((hB.alloc hbase _).grown hgrow (by simp; omega) fun k hk => (hown.lt k hk).1) (by omega)

theorem wpList_app_oneN {P : Program} {W w0 : World} {ops : Array Oper} {rest : List Oper} {o : Oper} {a : Act} {Q : Exit → Act → World → Prop} (hgd : o.guard = none) (s x : Operand) (t : TypeId)
    (ho : o.op = .call { callee := .builtin .append, args := #[s, x], argTypes := #[t, t] })
    (base : Nat) (e : TypeId) (i : TypeInfo) (z : Value) (size bytes : Nat) (ht : P.underlying t = some (.slice e)) (hi : P.info? e = some i) (hz : i.zero = some z)
    (hsize : i.size = size) (hby : i.bytes = bytes) (hzs : z.cells.size = size) (hsz : 0 < size)
    (v : Value) (n : Nat) (xs : List Value) (hs : a.eval s = v) (hown : W.ownsRow base e size v n xs)
    (cs : Array Value) (N : Nat) (hx : a.eval x = .slice (some ⟨N, 0, none⟩) 1 1) (hN : W.heap.size = N) (hl : cs.size = size) (h1 : ∀ u ∈ cs.toList, u.oneCell' = true)
    (hn : n ≤ 1000000000) (hbs : bytes ≤ 1000) (hB : Below base w0 W) (hbase : base ≤ W.heap.size)
    (h : ∀ v' w', w'.ownsRow base e size v' (n + 1) (xs ++ cs.toList) → Below base w0 w' → base ≤ w'.heap.size → wpList P ops Q rest (a.put o.dst v') w') : wpList P ops Q (o :: rest) a (W.alloc (.cells cs e)) := by
  subst hN
  exact wpList_app_one hgd s x t ho base e i z size bytes ht hi hz hsize hby hzs hsz v n xs hs hown cs hx hl h1 hn hbs hB hbase h

/-- the same, as a step of a region whose order is drawn -/
theorem step_app_oneN {P : Program} {W w0 : World} {ys : Nat → Option Bool} {o : Oper} {a : Act} {K : Act → World → Prop} {Q : Exit → Act → World → Prop} {E : Prop} (hgd : o.guard = none) (s x : Operand) (t : TypeId)
    (ho : o.op = .call { callee := .builtin .append, args := #[s, x], argTypes := #[t, t] })
    (base : Nat) (e : TypeId) (i : TypeInfo) (z : Value) (size bytes : Nat) (ht : P.underlying t = some (.slice e)) (hi : P.info? e = some i) (hz : i.zero = some z)
    (hsize : i.size = size) (hby : i.bytes = bytes) (hzs : z.cells.size = size) (hsz : 0 < size)
    (v : Value) (n : Nat) (xs : List Value) (hs : a.eval s = v) (hown : W.ownsRow base e size v n xs)
    (cs : Array Value) (N : Nat) (hx : a.eval x = .slice (some ⟨N, 0, none⟩) 1 1) (hN : W.heap.size = N) (hl : cs.size = size) (h1 : ∀ u ∈ cs.toList, u.oneCell' = true)
    (hn : n ≤ 1000000000) (hbs : bytes ≤ 1000) (hB : Below base w0 W) (hbase : base ≤ W.heap.size)
    (h : ∀ v' w', w'.ownsRow base e size v' (n + 1) (xs ++ cs.toList) → Below base w0 w' → base ≤ w'.heap.size → K (a.put o.dst v') w') : if Region.wanted o ys = true then Oper.wp P o a (W.alloc (.cells cs e)) K Q else E := by
  subst hN
  rw [if_pos (by simp [Region.wanted, hgd])]
  have hnb : (n + 1) * bytes ≤ 140737488355328 := Nat.le_trans (Nat.mul_le_mul (show n + 1 ≤ 1000000001 by omega) hbs) (by decide)
  refine wp_append_own _ s x t ho base e i z size bytes ht hi hz hsize hby hzs hsz v n xs hs (hown.alloc _) ⟨W.heap.size, 0, none⟩ 1 1 cs.toList hx (by simpa using hl) (cells_new W cs e) h1 (by unfold maxLen; omega) hnb (by simp; omega) ?_
  intro v' w' hown' hgrow _
  have hsz' := hgrow.size
  rw [World.size_alloc] at hsz'
  exact h v' w' hown' ((hB.alloc hbase _).grown hgrow (by simp; omega) fun k hk => (hown.lt k hk).1) (by omega)

/-- 'string(out)', out a slice of bytes of the call's own -/
theorem conv_owned {P : Program} (W : World) (src dst e : TypeId) (base : Nat) (v : Value) (l : List UInt8) (hs : P.underlying src = some (.slice e)) (he : P.underlying e = some (.int .u8)) (hd : P.underlying dst = some .string)
    (h : W.ownsRow base e 1 v l.length (l.map fun b => Value.int .u8 b.toNat)) :
    (convert src dst v).run P W = .ok (.string (bs l)) W := by
  rcases h.2 with ⟨rfl, hn⟩ | ⟨g, cap, cur, rfl, hrest⟩
  · have hl : l = [] := List.length_eq_zero_iff.1 hn
    subst hl
    exact run_convert_bytes_nil W src e hs he 0 0 dst hd
  · exact run_convert_bytes_back W src dst e ⟨g, 0, none⟩ cap l hs he hd fun j hj => h.cells (g := g) rfl j _ (by simp [hj])

/-- booleans as cells -/
def bl (f : Nat → Bool) (n : Nat) : List Value := (List.range n).map fun i => .bool (f i)
theorem bl_len (f : Nat → Bool) (n : Nat) : (bl f n).length = n := by simp [bl]
theorem bl_get (f : Nat → Bool) {n j : Nat} (h : j < n) : (bl f n)[j]? = some (.bool (f j)) := by simp [bl, h]
theorem bl_set (f g : Nat → Bool) {n j : Nat} (b : Bool) (hj : f j = b) (h : ∀ i, i < n → i ≠ j → f i = g i) : (bl g n).set j (.bool b) = bl f n := by
  apply List.ext_getElem?
  intro i
  rw [List.getElem?_set]
  by_cases e : j = i
  · subst e
    rw [if_pos rfl]
    by_cases hl : j < n
    · rw [bl_get f hl, hj]; simp [bl_len, hl]
    · rw [if_neg (by rw [bl_len]; exact hl), List.getElem?_eq_none (by rw [bl_len]; omega)]
  · rw [if_neg e]
    by_cases hl : i < n
    · rw [bl_get f hl, bl_get g hl, h i hl (fun h => e h.symm)]
    · rw [List.getElem?_eq_none (by rw [bl_len]; omega), List.getElem?_eq_none (by rw [bl_len]; omega)]
theorem bl_false (n : Nat) : (madeCells #[.bool false] n).toList = bl (fun _ => false) n := by
  rw [toList_madeCells_one]
  apply List.ext_getElem?
  intro i
  by_cases h : i < n
  · rw [bl_get _ h]; simp [h]
  · simp [bl, h]
end Go.Proofs.YtpbobonddocgkaaGreatDoor
end
section
/- One element more, told as what the call leaves as it lay: in a plain walk, in a fence, in a region whose order is drawn. -/
namespace Go.Proofs.YtpbobonddocgkaaGreatDoor
open Go Go.RowKit

theorem wpList_app_fr {P : Program} {W : World} {ops : Array Oper} {rest : List Oper} {o : Oper} {a : Act} {Q : Exit → Act → World → Prop} (hgd : o.guard = none) (s x : Operand) (t : TypeId)
    (ho : o.op = .call { callee := .builtin .append, args := #[s, x], argTypes := #[t, t] })
    (base : Nat) (e : TypeId) (i : TypeInfo) (z : Value) (size bytes : Nat) (ht : P.underlying t = some (.slice e)) (hi : P.info? e = some i) (hz : i.zero = some z)
    (hsize : i.size = size) (hby : i.bytes = bytes) (hzs : z.cells.size = size) (hsz : 0 < size)
    (v : Value) (n : Nat) (xs : List Value) (hs : a.eval s = v) (hown : W.ownsRow base e size v n xs)
    (cs : Array Value) (N : Nat) (hx : a.eval x = .slice (some ⟨N, 0, none⟩) 1 1) (hN : W.heap.size = N) (hl : cs.size = size) (h1 : ∀ u ∈ cs.toList, u.oneCell' = true)
    (hn : n ≤ 1000000000) (hbs : bytes ≤ 1000) (hbase : base ≤ W.heap.size)
    (h : ∀ v' w', w'.ownsRow base e size v' (n + 1) (xs ++ cs.toList) → Fr (fun k => v.ownBlock = some k) W w' → wpList P ops Q rest (a.put o.dst v') w') :
    wpList P ops Q (o :: rest) a (W.alloc (.cells cs e)) := by
  subst hN
  have hnb : (n + 1) * bytes ≤ 140737488355328 := Nat.le_trans (Nat.mul_le_mul (show n + 1 ≤ 1000000001 by omega) hbs) (by decide)
  refine wpList_append_own _ hgd s x t ho base e i z size bytes ht hi hz hsize hby hzs hsz v n xs hs (hown.alloc _) ⟨W.heap.size, 0, none⟩ 1 1 cs.toList hx (by simpa using hl) (cells_new W cs e) h1 (by unfold maxLen; omega) hnb (by simp; omega) ?_
  intro v' w' hown' hgrow _
  exact h v' w' hown' (((Fr.refl _ W).alloc _).grown hgrow fun k hk => .inr hk)
theorem wpListIn_app_fr {P : Program} {W : World} {F : Fence} {fn : Nat} {ops : Array Oper} {rest : List Oper} {o : Oper} {a : Act} {Q : Exit → Act → World → Prop} (hgd : o.guard = none) (s x : Operand) (t : TypeId)
    (ho : o.op = .call { callee := .builtin .append, args := #[s, x], argTypes := #[t, t] })
    (base : Nat) (e : TypeId) (i : TypeInfo) (z : Value) (size bytes : Nat) (ht : P.underlying t = some (.slice e)) (hi : P.info? e = some i) (hz : i.zero = some z)
    (hsize : i.size = size) (hby : i.bytes = bytes) (hzs : z.cells.size = size) (hsz : 0 < size)
    (v : Value) (n : Nat) (xs : List Value) (hs : a.eval s = v) (hown : W.ownsRow base e size v n xs)
    (cs : Array Value) (N : Nat) (hx : a.eval x = .slice (some ⟨N, 0, none⟩) 1 1) (hN : W.heap.size = N) (hl : cs.size = size) (h1 : ∀ u ∈ cs.toList, u.oneCell' = true)
    (hn : n ≤ 1000000000) (hbs : bytes ≤ 1000) (hbase : base ≤ W.heap.size)
    (h : ∀ v' w', w'.ownsRow base e size v' (n + 1) (xs ++ cs.toList) → Fr (fun k => v.ownBlock = some k) W w' → wpListIn F fn P ops Q rest (a.put o.dst v') w') :
    wpListIn F fn P ops Q (o :: rest) a (W.alloc (.cells cs e)) := by
  subst hN
  have hnb : (n + 1) * bytes ≤ 140737488355328 := Nat.le_trans (Nat.mul_le_mul (show n + 1 ≤ 1000000001 by omega) hbs) (by decide)
  refine wpListIn_append_own _ hgd s x t ho base e i z size bytes ht hi hz hsize hby hzs hsz v n xs hs (hown.alloc _) ⟨W.heap.size, 0, none⟩ 1 1 cs.toList hx (by simpa using hl) (cells_new W cs e) h1 (by unfold maxLen; omega) hnb (by simp; omega) ?_
  intro v' w' hown' hgrow _
  exact h v' w' hown' (((Fr.refl _ W).alloc _).grown hgrow fun k hk => .inr hk)
theorem step_app_fr {P : Program} {W : World} {ys : Nat → Option Bool} {K : Act → World → Prop} {E : Prop} {o : Oper} {a : Act} {Q : Exit → Act → World → Prop} (hgd : o.guard = none) (s x : Operand) (t : TypeId)
    (ho : o.op = .call { callee := .builtin .append, args := #[s, x], argTypes := #[t, t] })
    (base : Nat) (e : TypeId) (i : TypeInfo) (z : Value) (size bytes : Nat) (ht : P.underlying t = some (.slice e)) (hi : P.info? e = some i) (hz : i.zero = some z)
    (hsize : i.size = size) (hby : i.bytes = bytes) (hzs : z.cells.size = size) (hsz : 0 < size)
    (v : Value) (n : Nat) (xs : List Value) (hs : a.eval s = v) (hown : W.ownsRow base e size v n xs)
    (cs : Array Value) (N : Nat) (hx : a.eval x = .slice (some ⟨N, 0, none⟩) 1 1) (hN : W.heap.size = N) (hl : cs.size = size) (h1 : ∀ u ∈ cs.toList, u.oneCell' = true)
    (hn : n ≤ 1000000000) (hbs : bytes ≤ 1000) (hbase : base ≤ W.heap.size)
    (h : ∀ v' w', w'.ownsRow base e size v' (n + 1) (xs ++ cs.toList) → Fr (fun k => v.ownBlock = some k) W w' → K (a.put o.dst v') w') :
    if Region.wanted o ys = true then Oper.wp P o a (W.alloc (.cells cs e)) K Q else E := by
  subst hN
  have hnb : (n + 1) * bytes ≤ 140737488355328 := Nat.le_trans (Nat.mul_le_mul (show n + 1 ≤ 1000000001 by omega) hbs) (by decide)
  rw [if_pos (by simp [Region.wanted, hgd])]
  refine wp_append_own _ s x t ho base e i z size bytes ht hi hz hsize hby hzs hsz v n xs hs (hown.alloc _) ⟨W.heap.size, 0, none⟩ 1 1 cs.toList hx (by simpa using hl) (cells_new W cs e) h1 (by unfold maxLen; omega) hnb (by simp; omega) ?_
  intro v' w' hown' hgrow _
  exact h v' w' hown' (((Fr.refl _ W).alloc _).grown hgrow fun k hk => .inr hk)
/-- a slice in its box, one element more -/
theorem fr_own {W W' : World} {base : Nat} {e : TypeId} {size : Nat} {v : Value} {n : Nat} {xs : List Value} (hown : W.ownsRow base e size v n xs) (h : Fr (fun k => v.ownBlock = some k) W W') {B : Nat} (hB : B < base) (hBl : B < W.heap.size) : W'.heap[B]? = W.heap[B]? :=
  h.block B hBl fun e => by have := (hown.lt B e).1; omega
theorem own_cells {W : World} {base : Nat} {e : TypeId} {size : Nat} {v : Value} {n : Nat} {xs : List Value} (hown : W.ownsRow base e size v n xs) (k : Nat) (hk : v.ownBlock = some k) : ∃ o, W.heap[k]? = some o ∧ o.isCells = true := by
  rcases hown.2 with ⟨rfl, _⟩ | ⟨g, cap, cur, rfl, _, h3, _⟩
  · cases hk
  · cases hk; exact ⟨_, h3, rfl⟩
end Go.Proofs.YtpbobonddocgkaaGreatDoor
end
section
/- Layer 10: what the law is told: a row of numbers out of any function that tells it. -/
namespace Go.Proofs.YtpbobonddocgkaaGreatDoor
open Go Go.RowKit Go.Lib Go.Sort Go.Shelf
attribute [local go_sem] Oper.semAt_some

theorem Tryz.infoI : (Tryz.prog.info? 3).map (fun i => (i.zero, i.size, i.bytes)) = some (some (.int .i64 0), 1, 8) := by kernel_rfl
/-- what tells xs, whatever function it is -/
def Tells (w : World) (F : Value) (xs : List Int) : Prop := ∃ gf lb Y, F = .func (.func gf) #[] lb ∧ (∀ n, 10 ≤ n → SeqT Fence.wide n Tryz.prog gf lb encI (fun _ => False) Y xs w) ∧ (∀ b, Y b → b < w.heap.size) ∧ (∀ args v, (callFunc gf args).run Tryz.prog v = .ok (.enter gf args) v)
theorem tells_below {w W : World} {F : Value} {xs : List Int} (h : Tells w F xs) (hb : Below w.heap.size w W) : Tells W F xs := by
  obtain ⟨gf, lb, Y, h1, h2, h3, h4⟩ := h
  exact ⟨gf, lb, Y, h1, fun n hn l J Jx V hV => h2 n hn l J Jx V (hb.trans (hV.mono hb.size)), fun b hb2 => Nat.lt_of_lt_of_le (h3 b hb2) hb.size, h4⟩
theorem tells_tale {base : Nat} {w : World} {F : Value} {xs : List Int} (h : TaleAt base w F xs) (hl : xs.length ≤ 1000000) : Tells w F xs := by
  obtain ⟨B, v, h0, h1, h2, h3, h4⟩ := h
  refine ⟨_, _, rowY B v, h1, fun n hn => values_tells n (by omega) base B v xs w hl h2 h4, fun b hb => ?_, enters_of Tryz.func134 (by kernel_rfl) rfl⟩
  rcases hb with rfl | hb
  · exact blk_lt h2
  · exact (h4.lt b hb).2

/-- a slice in its box, and its row -/
def BoxI (B : Nat) (base : Nat) (W : World) (l : List Int) : Prop := ∃ v, W.heap[B]? = some (.cells #[v] 53 (0, 0)) ∧ OwnI base W v l
theorem boxI_own (B base : Nat) {β : Type} (f : β → List Int) : Own (fun s W => BoxI B base W (f s)) := fun s X Y row hs hg hrow => by
  obtain ⟨v, h1, h2⟩ := hs
  refine ⟨v, (hg.block B (blk_lt h1) (fun e => ?_)).trans h1, own_kept h2 fun g hg2 => hg.block g (h2.lt g hg2).2 fun e => ?_⟩
  · obtain ⟨o, ho, hc⟩ := hrow B e.symm; rw [h1] at ho; cases ho; cases hc
  · obtain ⟨o, ho, hc⟩ := hrow g e.symm
    obtain ⟨o2, ho2, hc2⟩ := own_cells h2 g hg2
    rw [ho] at ho2; cases ho2; rw [hc] at hc2; cases hc2
theorem results_box2 {P : Program} {fn : Func} {p q : Tmp} {ty ty2 : TypeId} (h : fn.results = #[.cell p ty, .cell q ty2]) (tmps : Array Value) (w : World) (g g2 : Nat) (v u : Value) (d d2 : TypeDesc) (hp : tmps.getD p undef = .pointer (some ⟨g, 0, none⟩)) (hc : w.cell? ⟨g, 0, none⟩ = some v)
    (hp2 : tmps.getD q undef = .pointer (some ⟨g2, 0, none⟩)) (hc2 : w.cell? ⟨g2, 0, none⟩ = some u)
    (hu : P.underlying ty = some d) (hd : (match d with | .struct _ | .array _ _ => true | _ => false) = false) (hu2 : P.underlying ty2 = some d2) (hd2 : (match d2 with | .struct _ | .array _ _ => true | _ => false) = false) : (results fn tmps).run P w = .ok (.tuple #[v, u]) w := by
  have hp' : tmps[p]?.getD undef = .pointer (some ⟨g, 0, none⟩) := by simpa using hp
  have hp2' : tmps[q]?.getD undef = .pointer (some ⟨g2, 0, none⟩) := by simpa using hp2
  have hagg : (isAgg ty).run P w = .ok false w := by
    unfold isAgg
    rw [Sem.run_bind, run_underlying hu w]
    cases d <;> simp_all
  have hagg2 : (isAgg ty2).run P w = .ok false w := by
    unfold isAgg
    rw [Sem.run_bind, run_underlying hu2 w]
    cases d2 <;> simp_all
  simp [results, h, hp', hp2', asAddr, loadVar, Sem.run_bind, hagg, hagg2, go_sem, hc, hc2]

theorem row_base' {W : World} {base base' : Nat} {v : Value} {xs : List Int} (h : OwnI base W v xs) (hb : base' ≤ base) : OwnI base' W v xs := by
  obtain ⟨h1, h2⟩ := h
  refine ⟨h1, ?_⟩
  rcases h2 with h2 | ⟨g, cap, cur, rfl, h3, h4⟩
  · exact .inl h2
  · exact .inr ⟨g, cap, cur, rfl, by omega, h4⟩
def ToldP (xs : List Int) (w : World) (e : Ending) (w' : World) : Prop := (∃ v', e = .returned (.tuple #[v', .bool true]) ∧ OwnI w.heap.size w' v' xs) ∧ Below w.heap.size w w'
end Go.Proofs.YtpbobonddocgkaaGreatDoor
end
section
/- Layer 10: gather: what some functions tell, each thing once, rising. -/
namespace Go.Proofs.YtpbobonddocgkaaGreatDoor
open Go Go.RowKit Go.Lib Go.Sort Go.Shelf
attribute [local go_sem] Oper.semAt_some

/-- a mark that a range over a function leaves -/
def mark (D : Nat) : Deferred := { target := .collected D, args := #[] }
/-- a function leaves through its marks -/
theorem leaves_marks {F : Fence} {n : Nat} {P : Program} {fn : Func} {tmps : Array Value} {R : Ending → World → Prop} : ∀ (Ds : List Nat) (w : World), Ds.Nodup → (∀ D ∈ Ds, w.heap[D]? = some (.deferred (some []))) →
    (∀ w', Fr (fun k => k ∈ Ds) w w' → ∃ v, (results fn tmps).run P w' = .ok v w' ∧ R (.returned v) w') → LeavesInM F n P fn tmps R (Ds.map mark) .returning w
  | [], w, _, _, h => h w (Fr.refl _ _)
  | D :: Ds, w, hn, hd, h => by
    rw [List.nodup_cons] at hn
    have h0 := hd D (by simp)
    refine ⟨by simp, .inl ⟨_, _, rfl, run_takeDeferred h0, ?_⟩⟩
    refine leaves_marks Ds _ hn.2 (fun D2 h2 => (World.putObj_heap_other fun e => hn.1 (by cases e; exact h2)).trans (hd D2 (by simp [h2]))) fun w' hf => h w' ?_
    have h1 : Fr (fun k => k ∈ D :: Ds) w (w.putObj D (.deferred none)) := ⟨rfl, rfl, rfl, by simp [World.putObj], fun k _ hk => World.putObj_heap_other fun e => hk (by simp [e])⟩
    exact h1.trans2 hf fun k _ hk => by simp [hk]

theorem marks_own {β : Type} (B : Nat) (Ds : List Nat) : OwnFrom B (fun (_ : β) V => ∀ D ∈ Ds, D < B ∧ V.heap[D]? = some (.deferred (some []))) := fun s V V' row h hg hrow D hD => by
  obtain ⟨a, b⟩ := h D hD
  exact ⟨a, (hg.block D (blk_lt b) (fun e => by have := (hrow D e.symm).1; omega)).trans b⟩
def GatG (w : World) (tl : List (List Int)) (Ds : List Nat) (k : Nat) (W : World) : Prop :=
  Ds.Nodup ∧ (∀ D ∈ Ds, w.heap.size < D ∧ W.heap[D]? = some (.deferred (some []))) ∧ BoxI w.heap.size (w.heap.size + 1) W ((tl.take k).flatten) ∧ Below w.heap.size w W
set_option maxRecDepth 100000 in
set_option maxHeartbeats 4000000 in
theorem gather_of {w : World} (A : Option Addr) (tl : List (List Int)) (c : Nat) (hn : tl.length ≤ 1000) (hl : tl.flatten.length ≤ 1000000)
    (hc : 0 < tl.length → ∃ g o, A = some ⟨g, o, none⟩ ∧ g < w.heap.size ∧ ∀ j (h : j < tl.length), ∃ F, w.cell? ⟨g, o + j, none⟩ = some F ∧ Tells w F tl[j]) (ss : List Int) (hss : (tl.flatten.mergeSort fun x y => decide (x ≤ y)) = ss) :
    Calls Tryz.prog 106 #[.slice A tl.length c] w (ListP (compact ss) w) := by
  have hsl : ss.length ≤ 1000000 := by rw [← hss, List.length_mergeSort]; exact hl
  have HSS := Lib.hid hss
  clear hss
  obtain ⟨i0, hi, hz0, hz1, hz2⟩ := info_parts Tryz.infoI
  refine (callsIn_wide (n := 30)).1 ?_
  refine callsIn_of_wp_marks Tryz.func106 rfl trivial ?_ rfl
  simp only [Tryz.ntmps106, List.size_toArray, List.length_cons, List.length_nil, Nat.reduceAdd, Nat.reduceSub, Array.replicate_succ, Array.replicate_zero, List.push_toArray, List.append_toArray, List.nil_append, List.cons_append]
  gi_wp2_with fail
  have hb0 : (w.alloc (Obj.cells #[Value.slice none 0 0] 53)).heap[w.heap.size]? = some (.cells #[.slice none 0 0] 53 (0, 0)) := heap_alloc_new w _
  have G0 : GatG w tl [] 0 (w.alloc (Obj.cells #[Value.slice none 0 0] 53)) := ⟨List.nodup_nil, (fun _ h => by cases h), ⟨_, hb0, own_nil _ _⟩, (Below.refl _ w).alloc (Nat.le_refl _) _⟩
  have HC := Lib.hid hc
  clear hb0 hc
  refine wpIn_loop_ghost_k (fun n a W => ∃ (k : Nat) (Ds : List Nat) (u5 u10 u11 u12 u13 u19 : Value), n = tl.length - k ∧ k ≤ tl.length ∧ a = { tmps := #[Value.slice A tl.length c, undef, Value.slice none 0 0, Value.pointer (some { block := w.heap.size, off := 0 }), undef, u5, undef, Value.slice A tl.length c, Value.int IntKind.i64 tl.length, Value.int IntKind.i64 k, u10, u11, u12, u13, undef, undef, undef, undef, undef, u19, undef, undef, undef, undef], defers := Ds.map mark } ∧ Hid (GatG w tl Ds k W)) tl.length ⟨0, [], _, _, _, _, _, _, rfl, Nat.zero_le _, rfl, G0⟩ ?_
  clear G0
  rintro gk a W ⟨k, Ds, u5, u10, u11, u12, u13, u19, hgk, hk, rfl, HG⟩ J K hJ hK
  by_cases hlt : k < tl.length
  · obtain ⟨g, o, rfl, hg, hcell⟩ := HC.out (by omega)
    obtain ⟨F, hF, hT⟩ := hcell k hlt
    obtain ⟨gf, lb, Y, rfl, hseq, hY, heg⟩ := hT
    obtain ⟨d1, d2, ⟨vb, d3, d4⟩, d5⟩ := HG.out
    have e0 : W.cell? ⟨g, o + k, none⟩ = some (.func (.func gf) #[] lb) := (World.cell?_of_block (w := w) (w' := W) (a := ⟨g, o + k, none⟩) (d5.block g hg)).trans hF
    have HSq := Lib.hid hseq
    have HEg := Lib.hid heg
    have HJ := Lib.hid hJ
    have HK := Lib.hid hK
    have hWz := d5.size
    clear d1 d2 d3 d4 d5 hcell hF hseq heg hJ hK
    gi_wp2_with fail
    obtain ⟨d1, d2, ⟨vb, d3, d4⟩, d5⟩ := HG.out
    have hfl : ((tl.take k).flatten).length + (tl[k]).length ≤ tl.flatten.length := by
      have h1 := congrArg (fun l => (List.flatten l).length) (List.take_append_drop (k + 1) tl)
      simp only [List.flatten_append, List.length_append, List.take_succ_eq_append_getElem hlt, List.flatten_cons, List.flatten_nil, List.append_nil] at h1
      omega
    have htk : (tl.take (k + 1)).flatten = (tl.take k).flatten ++ tl[k] := by rw [List.take_succ_eq_append_getElem hlt, List.flatten_append, List.flatten_cons, List.flatten_nil, List.append_nil]
    obtain ⟨xs, hxs⟩ : ∃ xs, tl[k] = xs := ⟨_, rfl⟩
    obtain ⟨ys, hys⟩ : ∃ ys, (tl.take k).flatten = ys := ⟨_, rfl⟩
    have HSq' := HSq.out
    rw [hxs] at HSq' hfl htk
    rw [hys] at d4 hfl htk
    have hYl : ∀ b, Y b → b < W.heap.size := fun b hb => by have := hY b hb; omega
    refine wpIn_rangeT (X := fun _ => False) (Y := Y) (xs := xs) (encs := encI) (w0 := w) (gf := gf) (lb := lb)
      (fun pre V => (BoxI w.heap.size (w.heap.size + 1) V (ys ++ pre) ∧ (∀ D ∈ Ds, D < W.heap.size ∧ V.heap[D]? = some (.deferred (some [])))) ∧ Below w.heap.size w V) (fun _ _ _ => False)
      rfl (HSq' _ (by omega)) d5 (fun _ h => h.elim) hYl rfl (by omega) trivial HEg.out (fun _ => rfl)
      (OwnFrom.and (OwnFrom.and ((boxI_own _ _ (fun pre => ys ++ pre)).from _) (marks_own _ _)) (ownFrom_below (Nat.le_refl _) d5.size)) (fun _ _ _ _ h => h.elim) (fun _ _ _ _ _ h _ _ => h) (fun _ _ _ _ _ h => h.elim)
      ⟨⟨⟨_, d3, by rw [List.append_nil]; exact d4⟩, fun D hD => ⟨blk_lt (d2 D hD).2, (d2 D hD).2⟩⟩, d5⟩ ?round ?done (fun _ _ _ _ _ _ _ h _ => h.elim)
    case round =>
      rintro l pre x r V0 V K2 hl2 ⟨rl, hrl⟩ hpx ⟨⟨⟨vb, h3, h4⟩, h6⟩, h5⟩ hK
      dsimp only [encI]
      have HK2 := Lib.hid hK
      clear hK
      gi_wp2
      refine HK2.out _ ?_
      clear HK2 K2
      have c3 := blk_cell h3 0
      have f3 := blk_free h3 0
      have hpl : pre.length + 1 ≤ xs.length := by
        have := congrArg List.length hpx
        simp at this; omega
      have hVz := h5.size
      have hVw : W.heap.size ≤ V.heap.size := by have := blk_lt hrl; omega
      have hsz := blk_lt d3
      have hyl : (ys ++ pre).length = ys.length + pre.length := List.length_append
      obtain ⟨zs, hzs⟩ : ∃ zs, ys ++ pre = zs := ⟨_, rfl⟩
      rw [hzs] at h4 hyl
      have hzl : zs.length ≤ 1000000 := by omega
      clear hyl
      have hor : V.ownsRow (w.heap.size + 1) 3 1 vb zs.length (zs.map (Value.int .i64)) := h4
      have HZ := Lib.hid hzs
      clear hzs
      have HO := Lib.hid hor
      have H := Lib.hid (And.intro h3 (And.intro h4 (And.intro h5 (And.intro h6 hrl))))
      clear h3 h4 h5 h6 hrl hor d1 d2 d3 d4 d5 hpx HSq' htk hxs hys
      gi_wp2_with (first | (gi_at_builtin; refine Hid.out ?_))
      refine Lib.hid ?_
      refine wpListIn_app_fr rfl _ _ 53 rfl (w.heap.size + 1) 3 i0 _ 1 8 Tryz.underlying53 hi hz0 hz1 hz2 rfl (by decide) _ _ _ rfl HO.out #[.int .i64 x] _ rfl rfl rfl (by intro u hu; simp at hu; subst hu; rfl) (by omega) (by decide) (by omega) ?_
      intro v1 W2 hown1 hfr1
      obtain ⟨A1, c1', rfl⟩ := row_slice hown1
      have e1 : W2.heap[w.heap.size]? = some (.cells #[vb] 53 (0, 0)) := (fr_own HO.out hfr1 (by omega) (by omega : w.heap.size < V.heap.size)).trans H.out.1
      have g1 := blk_cell e1 0
      have g2 := blk_free e1 0
      gi_wp2_with fail
      obtain ⟨h3, h4, h5, h6, hrl⟩ := H.out
      have hfr : Fr (fun k => vb.ownBlock = some k ∨ k = w.heap.size) V (W2.setCell ⟨w.heap.size, 0, none⟩ (.slice A1 (zs.length + 1) c1')) := (hfr1.mono fun _ _ h => .inl h).setCell _ (.inr rfl) _
      have hno : ∀ c, c < w.heap.size → ¬ (vb.ownBlock = some c ∨ c = w.heap.size) := by
        rintro c hc (e | e)
        · have := (h4.lt _ e).1; omega
        · omega
      refine ⟨hfr.keeps ?_ _, ?_, ⟨⟨.slice A1 (zs.length + 1) c1', ?_, ?_⟩, ?_⟩, h5.trans (hfr.below h5.size ?_)⟩
      · rintro k hk (e | rfl)
        · exact own_cells h4 k e
        · exact ⟨_, h3, rfl⟩
      · intro c hc
        have := hY c hc
        exact hfr.block c (by omega) (hno c (by omega))
      · have := blk_set e1 0 (.slice A1 (zs.length + 1) c1'); exact this
      · have hown2 : OwnI (w.heap.size + 1) W2 (.slice A1 (zs.length + 1) c1') (ys ++ (pre ++ [x])) := by
          rw [← List.append_assoc, HZ.out]; unfold OwnI; rw [List.length_append, List.map_append]; exact hown1
        exact own_kept hown2 fun g hg => heap_setCell_other W2 _ g _ (by have := (hown2.lt g hg).1; simp; omega)
      · intro D hD
        refine ⟨(h6 D hD).1, hfr.blk (h6 D hD).2 ?_⟩
        rintro (e | e)
        · obtain ⟨o2, a1, a2⟩ := own_cells h4 D e
          rw [(h6 D hD).2] at a1; cases a1; cases a2
        · subst e
          have := (h6 _ hD).2
          rw [h3] at this; cases this
      · rintro k hk (e | rfl)
        · have := (h4.lt k e).1; omega
        · omega
    case done =>
      rintro D V hD ⟨⟨⟨vb, h3, h4⟩, h6⟩, h5⟩ hdef
      have hG : GatG w tl (D :: Ds) (k + 1) V := by
        refine ⟨List.nodup_cons.2 ⟨fun e => by have := (h6 D e).1; omega, d1⟩, ?_, ⟨vb, h3, by rw [htk]; exact h4⟩, h5⟩
        intro E hE
        rcases List.mem_cons.1 hE with rfl | hE
        · exact ⟨by have := blk_lt d3; omega, hdef⟩
        · exact ⟨(d2 E hE).1, (h6 E hE).2⟩
      have HG2 := Lib.hid hG
      clear hG h3 h4 h5 h6 hdef d1 d2 d3 d4 d5 HSq' htk hxs hys hYl
      gi_wp2_with fail
      exact HK.out _ _ (Handed.intro (tl.length - (k + 1)) (by omega) (HJ.out _ _ _ ⟨k + 1, D :: Ds, _, _, _, _, _, _, rfl, by omega, rfl, HG2⟩))
  · obtain rfl : k = tl.length := by omega
    have htk : (tl.take tl.length).flatten = tl.flatten := by rw [List.take_length]
    obtain ⟨d1, d2, ⟨vb, d3, d4⟩, d5⟩ := HG.out
    rw [htk] at d4
    have c0 := blk_cell d3 0
    have hso := sort_own d4 (by omega)
    have hbz := blk_lt d3
    have hWz := d5.size
    rw [HSS.out] at hso
    have HS := Lib.hid hso
    have H := Lib.hid (And.intro d1 (And.intro d2 (And.intro d3 (And.intro d4 d5))))
    clear hJ d1 d2 d3 d4 d5 hso htk
    gi_wp2_with fail
    refine ⟨trivial, ((callsIn_wide (n := 29)).2 HS.out).mono ?_⟩
    rintro e W1 ⟨rfl, o1, f1⟩
    have hnv : ¬ vB vb w.heap.size := fun e => by have := (H.out.2.2.2.1.lt _ e).1; omega
    have b1 := f1.blk H.out.2.2.1 hnv
    have c1 := blk_cell b1 0
    have hco := compact_own o1 hsl
    have HO := Lib.hid hco
    have H1 := Lib.hid (And.intro o1 (And.intro f1 b1))
    clear o1 f1 b1 hco hnv
    gi_wp2_with fail
    refine ⟨trivial, ((callsIn_wide (n := 29)).2 HO.out).mono ?_⟩
    rintro e W2 ⟨⟨v', rfl, o2⟩, f2⟩
    have H2 := Lib.hid (And.intro o2 f2)
    clear o2 f2
    gi_wp2_with fail
    obtain ⟨d1, d2, d3, d4, d5⟩ := H.out
    obtain ⟨o1, f1, b1⟩ := H1.out
    obtain ⟨o2, f2⟩ := H2.out
    have m1 : ∀ D ∈ Ds, W1.heap[D]? = some (.deferred (some [])) := fun D hD => f1.blk (d2 D hD).2 fun e => by
      obtain ⟨o, a, b⟩ := own_cells d4 D e
      rw [(d2 D hD).2] at a; cases a; cases b
    have m2 : ∀ D ∈ Ds, W2.heap[D]? = some (.deferred (some [])) := fun D hD => f2.blk (m1 D hD) fun e => by
      obtain ⟨o, a, b⟩ := own_cells o1 D e
      rw [m1 D hD] at a; cases a; cases b
    refine leaves_marks Ds W2 d1 m2 fun w' hf => ⟨_, results_tmp rfl _ _ _, ⟨v', rfl, ?_⟩, ?_⟩
    · refine own_kept (row_base' o2 (by omega)) fun g hg => hf.block g (o2.lt g hg).2 fun e => ?_
      obtain ⟨o, a, b⟩ := own_cells o2 g hg
      rw [m2 g e] at a; cases a; cases b
    · refine d5.trans ((f1.below d5.size fun k _ e => ?_).trans ((f2.below (Nat.le_trans d5.size f1.size) fun k _ e => ?_).trans (hf.below (Nat.le_trans d5.size (Nat.le_trans f1.size f2.size)) fun k _ e => ?_)))
      · have := (d4.lt k e).1; omega
      · have := (o1.lt k e).1; omega
      · have := (d2 k e).1; omega
end Go.Proofs.YtpbobonddocgkaaGreatDoor
end
section
/- Layer 10: Of: a set of what a slice holds, whosever it is. -/
namespace Go.Proofs.YtpbobonddocgkaaGreatDoor
open Go Go.RowKit Go.Lib Go.Sort Go.Shelf

/-- what a slice reads -/
def ReadsI (w : World) (A : Option Addr) (xs : List Int) : Prop := 0 < xs.length → ∃ g o, A = some ⟨g, o, none⟩ ∧ g < w.heap.size ∧ ∀ j (h : j < xs.length), w.cell? ⟨g, o + j, none⟩ = some (.int .i64 xs[j])
theorem ReadsI.below {w W : World} {A : Option Addr} {xs : List Int} (h : ReadsI w A xs) {n : Nat} (hb : Below n w W) (hn : w.heap.size ≤ n := by exact Nat.le_refl _) : ReadsI W A xs := fun h0 => by
  obtain ⟨g, o, h1, h2, h3⟩ := h h0
  exact ⟨g, o, h1, Nat.lt_of_lt_of_le h2 hb.size, fun j hj => (World.cell?_of_block (w := w) (w' := W) (a := ⟨g, o + j, none⟩) (hb.block g (Nat.lt_of_lt_of_le h2 hn))).trans (h3 j hj)⟩
def anyY (B : Nat) (A : Option Addr) (n : Nat) : Nat → Prop := fun b => b = B ∨ (0 < n ∧ ∃ p, A = some p ∧ p.block = b)
set_option maxRecDepth 100000 in
set_option maxHeartbeats 4000000 in
theorem values_tells_any (n : Nat) (hn : 2 ≤ n) (B : Nat) (A : Option Addr) (c : Nat) (xs : List Int) (w : World) (hxs : xs.length ≤ 1000000) (hb : w.heap[B]? = some (.cells #[.slice A xs.length c] 53 (0, 0))) (hr : ReadsI w A xs) :
    SeqT Fence.wide n Tryz.prog 134 #[.pointer (some ⟨B, 0, none⟩)] encI (fun _ => False) (anyY B A xs.length) xs w := fun l J Jx V hV hJ hJx hY h0 => by
  have hbV := (hV.block B (blk_lt hb)).trans hb
  have c0 : V.cell? ⟨B, 0, none⟩ = some (.slice A xs.length c) := (blk_cell hbV 0).trans rfl
  have hrV : ReadsI V A xs := hr.below hV
  have HR := Lib.hid hrV
  have HB := Lib.hid hbV
  have HY := Lib.hid hY
  have HJ := Lib.hid hJ
  have HJx := Lib.hid hJx
  clear hb hr hV hrV hbV hY hJ hJx
  refine callsIn_of_wp Tryz.func134 rfl trivial ?_ rfl
  simp only [Tryz.ntmps134, List.size_toArray, List.length_cons, List.length_nil, Nat.reduceAdd, Nat.reduceSub, Array.replicate_succ, Array.replicate_zero, List.push_toArray, List.append_toArray, List.nil_append, List.cons_append]
  gi_wp2
  gi_loopw [7] (fun c1 wr => ∃ k : Nat, c1 = .int .i64 k ∧ k ≤ xs.length ∧ Hid (SameX (anyY B A xs.length) V wr) ∧ Hid (J (xs.take k) wr)) (fun c1 _ => xs.length - (Go.RowKit.intOf c1).toNat)
  case atStart => exact ⟨0, rfl, Nat.zero_le _, fun _ _ => rfl, h0⟩
  case round =>
    obtain ⟨k, rfl, hk, HS, HJk⟩ := hrel
    by_cases hlt : k < xs.length
    · obtain ⟨g, o, rfl, hg, hcell⟩ := HR.out (by omega)
      obtain ⟨x, hx⟩ : ∃ x, xs[k] = x := ⟨_, rfl⟩
      have e0 : wr.cell? ⟨g, o + k, none⟩ = some (.int .i64 x) := by
        rw [HS.out.cell (b := g) (o := o + k) (.inr ⟨by omega, _, rfl, rfl⟩), hcell k hlt, hx]
      have hsp : xs.take k ++ x :: xs.drop (k + 1) = xs := by rw [← hx, ← List.drop_eq_getElem_cons hlt]; exact List.take_append_drop k xs
      have htk : xs.take (k + 1) = xs.take k ++ [x] := by rw [List.take_succ_eq_append_getElem hlt, hx]
      have HT := Lib.hid htk
      have HSP := Lib.hid hsp
      have hyy := HY.out (xs.take k) x (xs.drop (k + 1)) wr hsp HJk.out
      obtain ⟨fn, tmps, assign, body, hy, hR⟩ := hyy
      dsimp only [encI] at hy
      clear hx htk hsp hg hcell
      gi_wp2_with fail
      refine ⟨fun _ => by omega, hR.mono ?_⟩
      rintro e W3 (⟨rfl, hJ3, hK3⟩ | ⟨rfl, hJx3⟩)
      · have hS3 : Hid (SameX (anyY B (some ⟨g, o, none⟩) xs.length) V W3) := HS.out.trans hK3
        rw [← HT.out] at hJ3
        have HJ3 := Lib.hid hJ3
        clear hJ3 hK3 hR hy
        gi_wp2_with fail
        go_roundw
        case rel => exact ⟨k + 1, by go_num, by omega, hS3, HJ3⟩
        case measure => simp [Go.RowKit.intOf]; omega
      · clear hR hy
        gi_wp2_with fail
        refine bodyPost_ret (results_none rfl _ _ _) rfl ?_
        exact ⟨⟨_, rfl⟩, .inr ⟨_, xs.drop (k + 1), by simpa using HSP.out, hJx3⟩⟩
    · obtain rfl : k = xs.length := by omega
      gi_wp2_with fail
      go_end0
      have hj := HJk.out
      rw [List.take_length] at hj
      exact ⟨⟨_, rfl⟩, .inl hj⟩


theorem tells_any {w : World} {B : Nat} {A : Option Addr} {xs : List Int} {c : Nat} (hl : xs.length ≤ 1000000) (hb : w.heap[B]? = some (.cells #[.slice A xs.length c] 53 (0, 0))) (hr : ReadsI w A xs) :
    Tells w (.func (.func 134) #[] #[.pointer (some ⟨B, 0, none⟩)]) xs := by
  refine ⟨_, _, anyY B A xs.length, rfl, fun n hn => values_tells_any n (by omega) B A c xs w hl hb hr, fun b hb2 => ?_, enters_of Tryz.func134 (by kernel_rfl) rfl⟩
  rcases hb2 with rfl | ⟨h0, p, h1, rfl⟩
  · exact blk_lt hb
  · obtain ⟨g, o, h2, h3, _⟩ := hr h0
    rw [h2] at h1; cases h1; exact h3
/-- numbers, each once, rising -/
def normI (xs : List Int) : List Int := compact (xs.mergeSort fun x y => decide (x ≤ y))
/-- a new set -/
def OfP (zs : List Int) (w : World) (e : Ending) (w' : World) : Prop := (∃ s ob, e = .returned (.pointer (some ⟨s, 0, none⟩)) ∧ SetAt w.heap.size w' s ob zs ∧ w.heap.size ≤ s) ∧ Below w.heap.size w w'
set_option maxHeartbeats 4000000 in
theorem set_of {w : World} (A : Option Addr) (xs : List Int) (c : Nat) (hl : xs.length ≤ 1000000) (hr : ReadsI w A xs) (hup : (normI xs).Pairwise (· < ·)) :
    Calls Tryz.prog 90 #[.slice A xs.length c] w (OfP (normI xs) w) := by
  have HV := Lib.hid (values_calls A xs.length c w)
  have HR := Lib.hid hr
  have HU := Lib.hid hup
  clear hr hup
  go_enter Tryz.func90, Tryz.ntmps90
  go_wp2_with fail
  refine HV.out.mono ?_
  rintro e w1 ⟨rfl, h1, h2⟩
  obtain ⟨W2, hW2⟩ : ∃ W2, w1.alloc (Obj.cells #[Value.func (.func 134) #[] #[.pointer (some ⟨w.heap.size, 0, none⟩)]] 149) = W2 := ⟨_, rfl⟩
  have hb2 : Below w1.heap.size w1 W2 := by rw [← hW2]; exact (Below.refl _ _).alloc (Nat.le_refl _) _
  have hT : Tells W2 (.func (.func 134) #[] #[.pointer (some ⟨w.heap.size, 0, none⟩)]) xs := tells_below (tells_any hl h1 (HR.out.below h2)) hb2
  have hcc : W2.cell? ⟨w1.heap.size, 0, none⟩ = some (Value.func (.func 134) #[] #[.pointer (some ⟨w.heap.size, 0, none⟩)]) := by rw [← hW2]; exact blk_cell (heap_alloc_new w1 _) 0
  have hz2 : w1.heap.size < W2.heap.size := by rw [← hW2, World.size_alloc]; omega
  have hz1 := h2.size
  have HG := Lib.hid (gather_of (w := W2) (some ⟨w1.heap.size, 0, none⟩) [xs] 1 (by simp) (by simpa using hl) (fun _ => ⟨_, _, rfl, hz2, fun j hj => by
    obtain rfl : j = 0 := by simp at hj; omega
    exact ⟨_, hcc, hT⟩⟩) _ rfl)
  have hB : Below w.heap.size w W2 := h2.trans (hb2.mono hz1)
  have H2 := Lib.hid hB
  have HW := Lib.hid hW2
  clear hb2 hT hcc h1 h2 hB hW2
  go_wp2_with fail
  rw [HW.out]
  refine HG.out.mono ?_
  rintro e w3 ⟨⟨v', rfl, h3⟩, h4⟩
  obtain ⟨A', c', rfl⟩ := row_slice h3
  have H3 := Lib.hid (And.intro h3 h4)
  clear h3 h4
  go_wp2_with fail
  go_ret
  obtain ⟨h3, h4⟩ := H3.out
  have hB := H2.out
  have hz := hB.size
  have hb3 : Below w3.heap.size w3 (w3.alloc (Obj.cells #[Value.slice A' (compact (List.mergeSort [xs].flatten fun x y => decide (x ≤ y))).length c'] 179)) := (Below.refl _ _).alloc (Nat.le_refl _) _
  have e0 : [xs].flatten = xs := by simp
  rw [e0] at h3 hb3
  refine ⟨⟨w3.heap.size, _, rfl, ⟨⟨_, heap_alloc_new w3 _, rfl, row_base' (own_kept h3 fun g hg => hb3.block g (h3.lt g hg).2) hz⟩, fun e => ?_, HU.out⟩, ?_⟩, hB.trans ((h4.mono hz).trans (hb3.mono (Nat.le_trans hz h4.size)))⟩
  · have := (h3.lt _ e).2; omega
  · have := h4.size; omega
end Go.Proofs.YtpbobonddocgkaaGreatDoor
end
section
/- A range over a function, in words of what is owned: the body says which blocks X it holds; the function that ranges leaves those alone, and may keep blocks of its own between the rounds. Outermost and within a round; the loop's variables may be boxed. -/
namespace Go.Proofs.YtpbobonddocgkaaGreatDoor
open Go Go.RowKit

/-- X' are blocks of X, and new ones -/
def GrowX (X X' : Nat → Prop) (V V' : World) : Prop := ∀ k, X' k → k < V'.heap.size ∧ (k < V.heap.size → X k)
/-- J hangs on blocks of X alone -/
def Stays {β : Type} (J : β → (Nat → Prop) → World → Prop) : Prop := ∀ s X V V', J s X V → (∀ k, X k → k < V.heap.size) → Fr (fun k => ¬ X k) V V' → J s X V'
/-- what a function that ranges is worth, if it tells the row xs out of blocks Y -/
def SeqF {α : Type} (P : Program) (g : Nat) (lb : Array Value) (encs : α → Array Value) (Y : Nat → Prop) (xs : List α) (w : World) : Prop :=
  ∀ (l : Nat) (J Jx : List α → (Nat → Prop) → World → Prop) (X : Nat → Prop) (V : World), SameX Y w V → (∀ b, Y b → b < V.heap.size) → (∀ k, X k → k < V.heap.size ∧ ¬ Y k) → Stays J → Stays Jx →
    (∀ pre x r X1 V1, pre ++ x :: r = xs → GrowX X X1 V V1 → J pre X1 V1 → Fr X V V1 →
      YieldAt Fence.wide 0 P l (encs x) V1 fun e V' => ∃ X2, GrowX X1 X2 V1 V' ∧ Fr X1 V1 V' ∧ ((e = .returned (.bool true) ∧ J (pre ++ [x]) X2 V') ∨ (e = .returned (.bool false) ∧ Jx (pre ++ [x]) X2 V'))) →
    J [] X V → Calls P g (#[.func (.yield l) #[] #[]] ++ lb) V fun e V' => (∃ v, e = .returned v) ∧ ∃ X2, GrowX X X2 V V' ∧ Fr X V V' ∧ (J xs X2 V' ∨ ∃ pre r, pre ++ r = xs ∧ Jx pre X2 V')
section
variable {P : Program} {n m : Nat}
/-- within the wide fence it is all one how deep, and in what round -/
theorem round_wide {F : Fence} (hF : F = Fence.wide ∨ ∃ l, F = Fence.wide.inRound l) {l f : Nat} {tmps : Array Value} {assign body : Code} {w : World} {R : Ending → World → Prop} (h : RoundIn Fence.wide n P l f tmps assign body w R) : RoundIn F m P l f tmps assign body w R := by
  rcases hF with rfl | ⟨l0, rfl⟩
  · exact ⟨trivial, fun c cs _ => h.2 c cs (room_wide _)⟩
  · exact ⟨trivial, fun c cs _ => h.2 c cs (room_wide _)⟩
theorem yield_wide {F : Fence} (hF : F = Fence.wide ∨ ∃ l, F = Fence.wide.inRound l) {l : Nat} {args : Array Value} {w : World} {R : Ending → World → Prop} (h : YieldAt Fence.wide n P l args w R) : YieldAt F m P l args w R := by
  obtain ⟨fn, tmps, assign, body, h1, h2⟩ := h
  exact ⟨fn, tmps, assign, body, h1, round_wide hF h2⟩
theorem calls_wide {F : Fence} (hF : F = Fence.wide ∨ ∃ l, F = Fence.wide.inRound l) {f : Nat} {args : Array Value} {w : World} {R : Ending → World → Prop} (h : Calls P f args w R) : CallsIn F n P f args w R := by
  rcases hF with rfl | ⟨l0, rfl⟩
  · exact (callsIn_wide (n := n)).2 h
  · exact (callsIn_wide (n := n)).2 h
end
theorem Fr.putObj {X : Nat → Prop} {a w : World} (h : Fr X a w) (l : Nat) (hl : X l) (o : Obj) : Fr X a (w.putObj l o) := h.grown (grownBy_putObj' w l o) fun k e => by cases e; exact .inr hl
theorem GrowX.refl {X : Nat → Prop} {V : World} (h : ∀ k, X k → k < V.heap.size) : GrowX X X V V := fun k hk => ⟨h k hk, fun _ => hk⟩
theorem GrowX.trans {X X1 X2 : Nat → Prop} {A B C : World} (h : GrowX X X1 A B) (k : GrowX X1 X2 B C) (hs : A.heap.size ≤ B.heap.size) : GrowX X X2 A C := fun b hb => ⟨(k b hb).1, fun hl => (h b ((k b hb).2 (by omega))).2 hl⟩

theorem Fr.trans3 {X Y : Nat → Prop} {a b c : World} (h : Fr X a b) (k : Fr Y b c) (hx : ∀ k, k < a.heap.size → Y k → X k) : Fr X a c :=
  ⟨k.os.trans h.os, k.tape.trans h.tape, k.output.trans h.output, Nat.le_trans h.size k.size, fun i hi hn => (k.block i (Nat.lt_of_lt_of_le hi h.size) fun e => hn (hx i hi e)).trans (h.block i hi hn)⟩
theorem putObj_size (w : World) (l : Nat) (o : Obj) : (w.putObj l o).heap.size = w.heap.size := by simp [World.putObj]
/-- how a round of the body ends -/
def EndF {α : Type} (l : Nat) (rb : Loop) (X1 : Nat → Prop) (I : List α → (Nat → Prop) → World → Prop) (Ix : Code → List α → (Nat → Prop) → World → Prop) (xs : List α) (V : World) : Exit → Act → World → Prop
  | .normal, _, V' => ∃ X2, GrowX X1 X2 V V' ∧ Fr (fun k => k = l ∨ X1 k) V V' ∧ V'.heap[l]? = some (.loop rb) ∧ I xs X2 V'
  | .ret, _, V' => ∃ X2, GrowX X1 X2 V V' ∧ Fr (fun k => k = l ∨ X1 k) V V' ∧ V'.heap[l]? = some (.loop rb) ∧ Ix .ret xs X2 V'
  | .exit id, _, V' => ∃ X2, GrowX X1 X2 V V' ∧ Fr (fun k => k = l ∨ X1 k) V V' ∧ V'.heap[l]? = some (.loop rb) ∧ Ix (.exit id) xs X2 V'
  | .goto t, _, V' => ∃ X2, GrowX X1 X2 V V' ∧ Fr (fun k => k = l ∨ X1 k) V V' ∧ V'.heap[l]? = some (.loop rb) ∧ Ix (.goto t) xs X2 V'
  | .panic _, _, _ => False
  | .outgrown, _, _ => False
/-- the record of a loop -/
def recF (fn : Nat) (tmps : Array Value) (ps : Array Tmp) (assign body : Code) (d : Nat) (st : LoopState) (pe : Option Code) : Loop := { state := st, pending := pe, fn := fn, tmps := tmps, params := ps, assign := assign, body := body, defers := d }
/-- the rounds, of whatever loop: what the function that ranges makes of them -/
theorem range_core {P : Program} {n : Nat} {α : Type} {ps : Array Tmp} {assign body : Code} {fn : Nat} {tmps : Array Value} {d gf l : Nat} {lb : Array Value} {Y X E : Nat → Prop} {encs : α → Array Value} {xs : List α} {w V1 : World}
    (I : List α → (Nat → Prop) → World → Prop) (Ix : Code → List α → (Nat → Prop) → World → Prop)
    (hseq : SeqF P gf lb encs Y xs w) (hX : ∀ k, X k → k < w.heap.size ∧ ¬ Y k) (hY : ∀ b, Y b → b < w.heap.size) (hps : ∀ x, (encs x).size = ps.size) (hI : Stays I) (hIx : ∀ c, Stays (Ix c)) (h0 : I [] X w)
    (hw : Fr (fun _ => False) w V1) (hl : w.heap.size ≤ l) (hE : ∀ k, E k → w.heap.size ≤ k ∧ k < V1.heap.size ∧ k ≠ l) (hr : V1.heap[l]? = some (.loop (recF fn tmps ps assign body d .ready none)))
    (hround : ∀ pre x r X1 V (K : Act → World → Prop) rb, pre ++ x :: r = xs → I pre X1 V → GrowX X X1 w V → (∀ k, X1 k → k ≠ l ∧ ¬ E k) → Fr X w V → l < V.heap.size →
      (∀ a1 Va, Fr (fun _ => False) V Va → (∀ Vb, Fr (fun k => k = l) V Vb → Vb.heap.size = Va.heap.size → (∀ k, k ≠ l → Vb.heap[k]? = Va.heap[k]?) → Vb.heap[l]? = some (.loop rb) → body.wpIn (Fence.wide.inRound l) n P (EndF l rb X1 I Ix (pre ++ [x]) V) a1 Vb) → K a1 Va) →
      assign.wpIn (Fence.wide.inRound l) n P (Exit.then K fun _ _ _ => False) { tmps := (ps.zip (encs x)).foldl (fun t (p, v) => t.setIfInBounds p v) tmps, defers := [] } V) :
    Calls P gf (#[.func (.yield l) #[] #[]] ++ lb) V1 fun e V2 => (∃ v, e = .returned v) ∧ ∃ X2, GrowX X X2 w V2 ∧ (∀ k, X2 k → k ≠ l ∧ ¬ E k) ∧ Fr X w V2 ∧ (∀ k, E k → V2.heap[k]? = V1.heap[k]?) ∧ l < V2.heap.size ∧
      ((I xs X2 V2 ∧ V2.heap[l]? = some (.loop (recF fn tmps ps assign body d .ready none))) ∨ ∃ pre r c, pre ++ r = xs ∧ Ix c pre X2 V2 ∧ V2.heap[l]? = some (.loop (recF fn tmps ps assign body d .done (some c)))) := by
  have hlV := blk_lt hr
  have key : ∀ (Q : List α → (Nat → Prop) → World → Prop) (o : Obj), Stays Q → Stays (fun pre X' V => ∃ X1, (∀ k, X' k ↔ (X1 k ∨ k = l ∨ E k)) ∧ Q pre X1 V ∧ V.heap[l]? = some o ∧ (∀ k, E k → V.heap[k]? = V1.heap[k]?) ∧ (∀ k, X1 k → k ≠ l ∧ ¬ E k)) := fun Q o hQ s X' V V' ⟨X1, h1, h2, h3, h4, h5⟩ hlt hf =>
    ⟨X1, h1, hQ s X1 V V' h2 (fun k hk => hlt k ((h1 k).2 (.inl hk))) (hf.mono fun k _ hn e => hn ((h1 k).2 (.inl e))), (hf.block l (blk_lt h3) (fun e => e ((h1 l).2 (.inr (.inl rfl))))).trans h3,
      fun k hk => (hf.block k (hlt k ((h1 k).2 (.inr (.inr hk)))) (fun e => e ((h1 k).2 (.inr (.inr hk))))).trans (h4 k hk), h5⟩
  have thru : ∀ {V2 : World}, Fr (fun k => X k ∨ k = l ∨ E k) V1 V2 → Fr X w V2 := fun hf => (hw.mono fun _ _ h => h.elim).trans3 hf fun k hk e => by
    rcases e with e | rfl | e
    · exact e
    · omega
    · have := (hE k e).1; omega
  have grow : ∀ {X' X1 : Nat → Prop} {V2 : World}, (∀ k, X' k ↔ (X1 k ∨ k = l ∨ E k)) → GrowX (fun k => X k ∨ k = l ∨ E k) X' V1 V2 → GrowX X X1 w V2 := fun h1 hg k hk => by
    have h2 := hg k ((h1 k).2 (.inl hk))
    refine ⟨h2.1, fun hlt => ?_⟩
    rcases h2.2 (Nat.lt_of_lt_of_le hlt hw.size) with e | rfl | e
    · exact e
    · omega
    · have := (hE k e).1; omega
  refine (hseq l (fun pre X' V => ∃ X1, (∀ k, X' k ↔ (X1 k ∨ k = l ∨ E k)) ∧ I pre X1 V ∧ V.heap[l]? = some (.loop (recF fn tmps ps assign body d .ready none)) ∧ (∀ k, E k → V.heap[k]? = V1.heap[k]?) ∧ (∀ k, X1 k → k ≠ l ∧ ¬ E k))
    (fun pre X' V => ∃ c, ∃ X1, (∀ k, X' k ↔ (X1 k ∨ k = l ∨ E k)) ∧ Ix c pre X1 V ∧ V.heap[l]? = some (.loop (recF fn tmps ps assign body d .done (some c))) ∧ (∀ k, E k → V.heap[k]? = V1.heap[k]?) ∧ (∀ k, X1 k → k ≠ l ∧ ¬ E k))
    (fun k => X k ∨ k = l ∨ E k) V1 (fun b hb => hw.block b (hY b hb) fun e => e) (fun b hb => Nat.lt_of_lt_of_le (hY b hb) hw.size) ?hX (key I _ hI) (fun s X' V V' ⟨c, h⟩ h1 h2 => ⟨c, key (Ix c) _ (hIx c) s X' V V' h h1 h2⟩) ?round
    ⟨X, fun k => Iff.rfl, hI [] X w V1 h0 (fun k hk => (hX k hk).1) (hw.mono fun _ _ h => h.elim), hr, fun _ _ => rfl, fun k hk => ⟨by have := (hX k hk).1; omega, fun e => by have := (hX k hk).1; have := (hE k e).1; omega⟩⟩).mono ?behind
  case hX =>
    rintro k (e | rfl | e)
    · exact ⟨Nat.lt_of_lt_of_le (hX k e).1 hw.size, (hX k e).2⟩
    · exact ⟨hlV, fun e => by have := hY _ e; omega⟩
    · exact ⟨(hE k e).2.1, fun e2 => by have := hY _ e2; have := (hE k e).1; omega⟩
  case behind =>
    rintro e V2 ⟨hv, X', hg, hf, (⟨X1, h1, h2, h3, h4, h5⟩ | ⟨pre, r, hpr, c, X1, h1, h2, h3, h4, h5⟩)⟩
    · exact ⟨hv, X1, grow h1 hg, h5, thru hf, h4, blk_lt h3, .inl ⟨h2, h3⟩⟩
    · exact ⟨hv, X1, grow h1 hg, h5, thru hf, h4, blk_lt h3, .inr ⟨pre, r, c, hpr, h2, h3⟩⟩
  case round =>
    rintro pre x r X' V hpx hgx ⟨X1, h1, h2, h3, h4, h5⟩ hfx
    have hy := run_yield (P := P) (args := encs x) h3 (by exact hps x)
    have hlv := blk_lt h3
    have hV1 := hfx.size
    obtain ⟨rb, hrb⟩ : ∃ rb : Loop, { recF fn tmps ps assign body d .ready none with state := .busy } = rb := ⟨_, rfl⟩
    refine ⟨fn, _, assign, body, hy, round_wide (n := n) (.inl rfl) (roundIn_of_wpIn (F := Fence.wide) trivial (hround pre x r X1 V _ rb hpx h2 (grow h1 hgx) h5 (thru hfx) hlv fun a1 Va hfa hbody => ⟨_, run_beginRound (hfa.blk h3 fun h => h) rfl, ?_⟩))⟩
    rw [hrb]
    have hla : l < Va.heap.size := Nat.lt_of_lt_of_le hlv hfa.size
    refine wpIn_mono (hbody (Va.putObj l (.loop rb)) (Fr.putObj (X := fun k => k = l) (hfa.mono fun _ _ h => h.elim) l rfl _) (putObj_size _ _ _) (fun k hk => World.putObj_heap_other hk) (World.putObj_heap_same hla)) ?_
    have fin : ∀ (Q : List α → (Nat → Prop) → World → Prop), Stays Q → ∀ {X2 : Nat → Prop} {V3 : World} (o : Obj), GrowX X1 X2 V V3 → Fr (fun k => k = l ∨ X1 k) V V3 → Q (pre ++ [x]) X2 V3 →
        GrowX X' (fun k => X2 k ∨ k = l ∨ E k) V (V3.putObj l o) ∧ Fr X' V (V3.putObj l o) ∧ ∃ X1', (∀ k, (X2 k ∨ k = l ∨ E k) ↔ (X1' k ∨ k = l ∨ E k)) ∧ Q (pre ++ [x]) X1' (V3.putObj l o) ∧ (V3.putObj l o).heap[l]? = some o ∧ (∀ k, E k → (V3.putObj l o).heap[k]? = V1.heap[k]?) ∧ (∀ k, X1' k → k ≠ l ∧ ¬ E k) := fun Q hQ X2 V3 o g2 f2 q2 => by
      have hl3 : l < V3.heap.size := Nat.lt_of_lt_of_le hlv f2.size
      have hEV : ∀ k, E k → k < V.heap.size := fun k hk => Nat.lt_of_lt_of_le (hE k hk).2.1 hV1
      have x2 : ∀ k, X2 k → k ≠ l ∧ ¬ E k := fun k hk => ⟨fun e => by subst e; exact (h5 _ ((g2 _ hk).2 hlv)).1 rfl, fun e => (h5 _ ((g2 _ hk).2 (hEV k e))).2 e⟩
      refine ⟨fun k hk => ?_, (f2.putObj l (.inl rfl) o).mono fun k _ e => ?_, X2, fun k => Iff.rfl, hQ _ X2 V3 _ q2 (fun k hk => (g2 k hk).1) ((Fr.refl _ V3).putObj l (fun e => (x2 l e).1 rfl) o), World.putObj_heap_same hl3, fun k hk => ?_, x2⟩
      · rw [putObj_size]
        rcases hk with hk | rfl | hk
        · exact ⟨(g2 k hk).1, fun hlt => (h1 k).2 (.inl ((g2 k hk).2 hlt))⟩
        · exact ⟨hl3, fun _ => (h1 _).2 (.inr (.inl rfl))⟩
        · exact ⟨Nat.lt_of_lt_of_le (hEV k hk) f2.size, fun _ => (h1 _).2 (.inr (.inr hk))⟩
      · rcases e with rfl | e
        · exact (h1 _).2 (.inr (.inl rfl))
        · exact (h1 _).2 (.inl e)
      · refine (World.putObj_heap_other (hE k hk).2.2).trans ((f2.block k (hEV k hk) ?_).trans (h4 k hk))
        rintro (e | e)
        · exact (hE k hk).2.2 e
        · exact (h5 k e).2 hk
    rintro e a3 V3 hp
    cases e with
    | normal =>
      obtain ⟨X2, g2, f2, r2, i2⟩ := hp
      have hend := run_endRound (P := P) none r2
      rw [← hrb] at hend
      obtain ⟨q1, q2, q3⟩ := fin I hI _ g2 f2 i2
      exact ⟨_, _, hend, _, q1, q2, .inl ⟨rfl, q3⟩⟩
    | ret =>
      obtain ⟨X2, g2, f2, r2, i2⟩ := hp
      have hend := run_endRound (P := P) (some .ret) r2
      rw [← hrb] at hend
      obtain ⟨q1, q2, q3⟩ := fin _ (hIx .ret) _ g2 f2 i2
      exact ⟨_, _, hend, _, q1, q2, .inr ⟨rfl, _, q3⟩⟩
    | exit id =>
      obtain ⟨X2, g2, f2, r2, i2⟩ := hp
      have hend := run_endRound (P := P) (some (.exit id)) r2
      rw [← hrb] at hend
      obtain ⟨q1, q2, q3⟩ := fin _ (hIx (.exit id)) _ g2 f2 i2
      exact ⟨_, _, hend, _, q1, q2, .inr ⟨rfl, _, q3⟩⟩
    | goto t =>
      obtain ⟨X2, g2, f2, r2, i2⟩ := hp
      have hend := run_endRound (P := P) (some (.goto t)) r2
      rw [← hrb] at hend
      obtain ⟨q1, q2, q3⟩ := fin _ (hIx (.goto t)) _ g2 f2 i2
      exact ⟨_, _, hend, _, q1, q2, .inr ⟨rfl, _, q3⟩⟩
    | panic ch => exact hp.elim
    | outgrown => exact hp.elim
/-- an outermost loop -/
theorem wpIn_rangeF {n : Nat} {P : Program} {w : World} {α : Type} {a : Act} {Q : Exit → Act → World → Prop} {g : Operand} {assign body : Code} {ps : Array Tmp} {gf : Nat} {lb : Array Value}
    {X Y : Nat → Prop} {encs : α → Array Value} {xs : List α} (I : List α → (Nat → Prop) → World → Prop) (Ix : Code → List α → (Nat → Prop) → World → Prop)
    (hg : a.eval g = .func (.func gf) #[] lb) (hseq : SeqF P gf lb encs Y xs w) (hX : ∀ k, X k → k < w.heap.size ∧ ¬ Y k) (hY : ∀ b, Y b → b < w.heap.size) (h1 : 1 ≤ n)
    (eg : ∀ args v, (callFunc gf args).run P v = .ok (.enter gf args) v) (hps : ∀ x, (encs x).size = ps.size) (hI : Stays I) (hIx : ∀ c, Stays (Ix c)) (h0 : I [] X w)
    (hround : ∀ l pre x r X1 V (K : Act → World → Prop) rb, w.heap.size ≤ l → pre ++ x :: r = xs → I pre X1 V → GrowX X X1 w V → ¬ X1 l → Fr X w V → l < V.heap.size →
      (∀ a1 Va, Fr (fun _ => False) V Va → (∀ Vb, Fr (fun k => k = l) V Vb → Vb.heap.size = Va.heap.size → (∀ k, k ≠ l → Vb.heap[k]? = Va.heap[k]?) → Vb.heap[l]? = some (.loop rb) → body.wpIn (Fence.wide.inRound l) (n - 1 - 1) P (EndF l rb X1 I Ix (pre ++ [x]) V) a1 Vb) → K a1 Va) →
      assign.wpIn (Fence.wide.inRound l) (n - 1 - 1) P (Exit.then K fun _ _ _ => False) { tmps := (ps.zip (encs x)).foldl (fun t (p, v) => t.setIfInBounds p v) a.tmps, defers := [] } V)
    (hdone : ∀ D X2 V, w.heap.size ≤ D → ¬ X2 D → GrowX X X2 w V → Fr X w V → I xs X2 V → V.heap[D]? = some (.deferred (some [])) → Q .normal { a with defers := { target := .collected D, args := #[] } :: a.defers } V)
    (hstop : ∀ D c pre r X2 V, w.heap.size ≤ D → pre ++ r = xs → ¬ X2 D → GrowX X X2 w V → Fr X w V → Ix c pre X2 V → V.heap[D]? = some (.deferred (some [])) → c.wpIn Fence.wide n P Q { a with defers := { target := .collected D, args := #[] } :: a.defers } V) :
    (Code.rangeFunc g ps assign body).wpIn Fence.wide n P Q a w := by
  refine wpIn_rangeFunc fun fn hfn => ?_
  obtain ⟨V1, hV1⟩ : ∃ V1, (w.alloc (.deferred (some []))).alloc (.loop (recF fn a.tmps ps assign body w.heap.size .ready none)) = V1 := ⟨_, rfl⟩
  have hz : V1.heap.size = w.heap.size + 2 := by rw [← hV1]; simp
  have hr : V1.heap[w.heap.size + 1]? = some (.loop (recF fn a.tmps ps assign body w.heap.size .ready none)) := by
    subst hV1
    have h := World.alloc_heap_new (w.alloc (.deferred (some []))) (.loop (recF fn a.tmps ps assign body w.heap.size .ready none))
    rwa [World.size_alloc] at h
  have hd : V1.heap[w.heap.size]? = some (.deferred (some [])) := by
    subst hV1
    exact (Below.heap_alloc _ _ _ (by simp)).trans (World.alloc_heap_new w _)
  have hw : Fr (fun _ => False) w V1 := by subst hV1; exact ((Fr.refl _ w).alloc _).alloc _
  refine ⟨w.heap.size + 1, [{ target := .collected w.heap.size, args := #[] }], V1, { target := .fn (.func gf) lb, args := #[.func (.yield (w.heap.size + 1)) #[] #[]] }, V1, gf, #[.func (.yield (w.heap.size + 1)) #[] #[]] ++ lb, V1, ?_, ?_, ?_, ?_, fun _ => h1, ?_⟩
  · rw [← hV1]; exact run_enterLoop_outer _ _ _ _ _
  · simp only [resolve, hg]; simp [go_sem]
  · intro f' _; trivial
  · simp [invoke, go_sem, eg]
  refine (calls_wide (.inl rfl) (range_core (n := n - 1 - 1) (E := fun k => k = w.heap.size) I Ix hseq hX hY hps hI hIx h0 hw (by omega) (fun k hk => by subst hk; omega) hr
    (fun pre x r X1 V K rb h1 h2 h3 h4 h5 h6 h7 => hround (w.heap.size + 1) pre x r X1 V K rb (by omega) h1 h2 h3 (fun e => (h4 _ e).1 rfl) h5 h6 h7))).mono ?_
  rintro e V2 ⟨⟨v, rfl⟩, X2, g2, x2, f2, e2, l2, h⟩
  have hD : ∀ o, (V2.putObj (w.heap.size + 1) o).heap[w.heap.size]? = some (.deferred (some [])) := fun o => (World.putObj_heap_other (by omega)).trans ((e2 _ rfl).trans hd)
  have hput : ∀ o, Fr X w (V2.putObj (w.heap.size + 1) o) := fun o => f2.trans3 ((Fr.refl (fun k => k = w.heap.size + 1) V2).putObj _ rfl o) fun k hk e => by omega
  have hst : ∀ o, Fr (fun k => ¬ X2 k) V2 (V2.putObj (w.heap.size + 1) o) := fun o => (Fr.refl _ V2).putObj _ (fun e => (x2 _ e).1 rfl) o
  have hgr : ∀ o, GrowX X X2 w (V2.putObj (w.heap.size + 1) o) := fun o k hk => by rw [putObj_size]; exact g2 k hk
  rcases h with ⟨hi, hr2⟩ | ⟨pre, r, c, hpr, hi, hr2⟩
  · exact ⟨none, _, run_endLoop (P := P) hr2 (by simp [recF]), hdone _ X2 _ (Nat.le_refl _) (fun e => (x2 _ e).2 rfl) (hgr _) (hput _) (hI _ X2 V2 _ hi (fun k hk => (g2 k hk).1) (hst _)) (hD _)⟩
  · exact ⟨some c, _, run_endLoop (P := P) hr2 (by simp [recF]), hstop _ c pre r X2 _ (Nat.le_refl _) hpr (fun e => (x2 _ e).2 rfl) (hgr _) (hput _) (hIx c _ X2 V2 _ hi (fun k hk => (g2 k hk).1) (hst _)) (hD _)⟩
/-- a loop within a round -/
theorem wpIn_rangeFN {n : Nat} {P : Program} {w : World} {α : Type} {a : Act} {Q : Exit → Act → World → Prop} {g : Operand} {assign body : Code} {ps : Array Tmp} {gf : Nat} {lb : Array Value} {l0 : Nat} {r0 : Loop}
    {X Y : Nat → Prop} {encs : α → Array Value} {xs : List α} (I : List α → (Nat → Prop) → World → Prop) (Ix : Code → List α → (Nat → Prop) → World → Prop) (hl0 : w.heap[l0]? = some (.loop r0))
    (hg : a.eval g = .func (.func gf) #[] lb) (hseq : SeqF P gf lb encs Y xs w) (hX : ∀ k, X k → k < w.heap.size ∧ ¬ Y k) (hY : ∀ b, Y b → b < w.heap.size) (h1 : 1 ≤ n)
    (eg : ∀ args v, (callFunc gf args).run P v = .ok (.enter gf args) v) (hps : ∀ x, (encs x).size = ps.size) (hI : Stays I) (hIx : ∀ c, Stays (Ix c)) (h0 : I [] X w)
    (hround : ∀ l pre x r X1 V (K : Act → World → Prop) rb, w.heap.size ≤ l → pre ++ x :: r = xs → I pre X1 V → GrowX X X1 w V → ¬ X1 l → Fr X w V → l < V.heap.size →
      (∀ a1 Va, Fr (fun _ => False) V Va → (∀ Vb, Fr (fun k => k = l) V Vb → Vb.heap.size = Va.heap.size → (∀ k, k ≠ l → Vb.heap[k]? = Va.heap[k]?) → Vb.heap[l]? = some (.loop rb) → body.wpIn (Fence.wide.inRound l) (n - 1 - 1) P (EndF l rb X1 I Ix (pre ++ [x]) V) a1 Vb) → K a1 Va) →
      assign.wpIn (Fence.wide.inRound l) (n - 1 - 1) P (Exit.then K fun _ _ _ => False) { tmps := (ps.zip (encs x)).foldl (fun t (p, v) => t.setIfInBounds p v) a.tmps, defers := [] } V)
    (hdone : ∀ X2 V, GrowX X X2 w V → Fr X w V → I xs X2 V → Q .normal a V)
    (hstop : ∀ c pre r X2 V, pre ++ r = xs → GrowX X X2 w V → Fr X w V → Ix c pre X2 V → c.wpIn (Fence.wide.inRound l0) n P Q a V) :
    (Code.rangeFunc g ps assign body).wpIn (Fence.wide.inRound l0) n P Q a w := by
  refine wpIn_rangeFunc fun fn hfn => ?_
  obtain ⟨V1, hV1⟩ : ∃ V1, w.alloc (.loop (recF fn a.tmps ps assign body r0.defers .ready none)) = V1 := ⟨_, rfl⟩
  have hz : V1.heap.size = w.heap.size + 1 := by rw [← hV1]; simp
  have hr : V1.heap[w.heap.size]? = some (.loop (recF fn a.tmps ps assign body r0.defers .ready none)) := by subst hV1; exact World.alloc_heap_new w _
  have hw : Fr (fun _ => False) w V1 := by subst hV1; exact (Fr.refl _ w).alloc _
  refine ⟨w.heap.size, [], V1, { target := .fn (.func gf) lb, args := #[.func (.yield w.heap.size) #[] #[]] }, V1, gf, #[.func (.yield w.heap.size) #[] #[]] ++ lb, V1, ?_, ?_, ?_, ?_, fun _ => h1, ?_⟩
  · rw [← hV1]; exact run_enterLoop_inner hl0 _ _ _ _ _
  · simp only [resolve, hg]; simp [go_sem]
  · intro f' _; trivial
  · simp [invoke, go_sem, eg]
  refine (calls_wide (.inr ⟨l0, rfl⟩) (range_core (n := n - 1 - 1) (E := fun _ => False) I Ix hseq hX hY hps hI hIx h0 hw (Nat.le_refl _) (fun k hk => hk.elim) hr
    (fun pre x r X1 V K rb h1 h2 h3 h4 h5 h6 h7 => hround w.heap.size pre x r X1 V K rb (Nat.le_refl _) h1 h2 h3 (fun e => (h4 _ e).1 rfl) h5 h6 h7))).mono ?_
  rintro e V2 ⟨⟨v, rfl⟩, X2, g2, x2, f2, e2, l2, h⟩
  have hput : ∀ o, Fr X w (V2.putObj w.heap.size o) := fun o => f2.trans3 ((Fr.refl (fun k => k = w.heap.size) V2).putObj _ rfl o) fun k hk e => by omega
  have hst : ∀ o, Fr (fun k => ¬ X2 k) V2 (V2.putObj w.heap.size o) := fun o => (Fr.refl _ V2).putObj _ (fun e => (x2 _ e).1 rfl) o
  have hgr : ∀ o, GrowX X X2 w (V2.putObj w.heap.size o) := fun o k hk => by rw [putObj_size]; exact g2 k hk
  rcases h with ⟨hi, hr2⟩ | ⟨pre, r, c, hpr, hi, hr2⟩
  · exact ⟨none, _, run_endLoop (P := P) hr2 (by simp [recF]), hdone X2 _ (hgr _) (hput _) (hI _ X2 V2 _ hi (fun k hk => (g2 k hk).1) (hst _))⟩
  · exact ⟨some c, _, run_endLoop (P := P) hr2 (by simp [recF]), hstop c pre r X2 _ hpr (hgr _) (hput _) (hIx c _ X2 V2 _ hi (fun k hk => (g2 k hk).1) (hst _))⟩
end Go.Proofs.YtpbobonddocgkaaGreatDoor
end
