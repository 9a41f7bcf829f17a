/- Texts of this proof, one behind the other. -/
import Derived.Deep.AppendSrc
import Derived.Laws.AppendOwn
import Derived.OwnWalkIn
import Derived.Test.YtnoeblnljfnecaaDoorWishAsksG1
import Derived.Test.YtnoeblnljfnecaaDoorWishAsksG2
import Derived.Lib.Hide
import Derived.Test.YtnoeblnljfnecaaDoorChecked
import Derived.Sort.LoopGhostIn
import Derived.Stop.RegionWithIn
import Derived.LoopIn
import Derived.Deep.LoopGhost
import Derived.Deep.QuietTactic
import Derived.BigQuiet
import Derived.Outline
section
/- append onto a slice of the call's own, from whatever source: a text's bytes too. -/
namespace Go.Proofs.YtnoeblnljfnecaaDoor
open Go Go.RowKit

section
variable {P : Program} (w : World)

theorem run_room_src (t tx ty e : TypeId) (i : TypeInfo) (ht : P.underlying t = some (.slice e)) (hi : P.info? e = some i)
    (g sLen sCap : Nat) (cur : Array Value) (hg : w.heap[g]? = some (.cells cur e (0, 0))) (x : Value) (m : Nat) (news : List Value) (hs : Src P i.size tx x m news w)
    (hroom : sLen + m ≤ sCap) (hfit : sLen * i.size + news.length ≤ cur.size) :
    (Builtin.append_ #[t, tx] ty #[.slice (some ⟨g, 0, none⟩) sLen sCap, x]).run P w =
      .ok (.slice (some ⟨g, 0, none⟩) (sLen + m) sCap) (w.setRow g (cur.toList.take (sLen * i.size) ++ news ++ cur.toList.drop (sLen * i.size + news.length)).toArray) := by
  have hst := run_storeCells_at P g (sLen * i.size) e news 0 cur w hg (by simpa using hfit) hs.one
  simp only [Nat.add_zero] at hst
  rcases hs.kind with ⟨e', hk⟩ | hk <;> simp [Builtin.append_, run_underlying ht, run_underlying hk, sizeOf, typeInfo, hi, hs.len, hroom, hs.cells, Addr.add_lit, hst]

theorem run_app_src (base : Nat) (t tx ty e : TypeId) (i : TypeInfo) (z : Value) (size bytes : Nat) (ht : P.underlying t = some (.slice e)) (hi : P.info? e = some i) (hz : i.zero = some z)
    (hsize : i.size = size) (hby : i.bytes = bytes) (hzs : z.cells.size = size) (g cap n : Nat) (xs : List Value)
    (hown : w.ownsRow base e size (.slice (some ⟨g, 0, none⟩) n cap) n xs) (x : Value) (m : Nat) (news : List Value) (hs : Src P size tx x m news w)
    (h63 : n + m ≤ maxLen) (hbytes : (n + m) * bytes ≤ 140737488355328) (hbase : base ≤ w.heap.size) :
    ∃ g' cap' w', (Builtin.append_ #[t, tx] ty #[.slice (some ⟨g, 0, none⟩) n cap, x]).run P w = .ok (.slice (some ⟨g', 0, none⟩) (n + m) cap') w' ∧
      w'.ownsRow base e size (.slice (some ⟨g', 0, none⟩) (n + m) cap') (n + m) (xs ++ news) ∧ w.grownBy w' (some g) := by
  subst hsize
  subst hby
  have hsmall : n + m ≤ 9223372036854775807 := by simp only [maxLen] at h63; omega
  have hlen : (xs ++ news).length = (n + m) * i.size := by rw [List.length_append, hown.1, hs.newsLen, Nat.add_mul]
  have hown' := hown
  rcases hown.2 with ⟨h, _⟩ | ⟨g0, cap0, cur, h, hbg, hg, hnc, hcm, hcs, htake⟩
  · cases h
  · simp only [Value.slice.injEq, Option.some.injEq, Addr.mk.injEq, true_and, and_true] at h
    obtain ⟨rfl, rfl⟩ := h
    by_cases hroom : n + m ≤ cap
    · have hfit : n * i.size + news.length ≤ cur.size := by rw [hs.newsLen, hcs, ← Nat.add_mul]; exact Nat.mul_le_mul_right _ hroom
      have hr := run_room_src (P := P) w t tx ty e i ht hi g n cap cur hg x m news hs hroom hfit
      refine ⟨_, _, _, hr, ⟨hlen, .inr ⟨g, cap, _, rfl, hbg, setRow_heap w g cur _ e _ hg, hroom, hcm, ?_, ?_⟩⟩, ⟨rfl, rfl, rfl, by simp, fun k _ hk => setRow_other w g k _ (fun e => hk (by rw [e]))⟩⟩
      · simp only [List.size_toArray, List.length_append, List.length_take, List.length_drop, Array.length_toList]
        omega
      · rw [htake, ← hlen]
        exact List.take_left
    · have holds : ∀ j u, xs[j]? = some u → w.cell? ((⟨g, 0, none⟩ : Addr).add j) = some u := hown'.cells (g := g) rfl
      have hold := run_firstCells_some (P := P) w.drew i.size n ⟨g, 0, none⟩ n cap xs hown'.1 (by simpa using holds)
      have hr := run_append_grow_src (P := P) w t tx ty e i z ht hi hz (some ⟨g, 0, none⟩) n cap xs hold x m news hs (by omega) (by omega) (growslice_fits (by omega) hbytes)
      refine ⟨_, _, _, hr, ⟨hlen, .inr ⟨w.heap.size, _, _, rfl, hbase, heap_alloc_new w.drew _, grownCap_ge w (n + m) cap e, grownCap_le_maxLen w (n + m) cap e h63, ?_, ?_⟩⟩, ⟨rfl, rfl, rfl, by simp, fun k hk _ => heap_alloc_old w.drew _ hk⟩⟩
      · simp only [Array.size_append, List.size_toArray, size_zeroCells, hzs, hlen, ← Nat.add_mul]
        have := grownCap_ge w (n + m) cap e
        congr 1
        omega
      · simp only [Array.toList_append]
        rw [← hlen]
        exact List.take_left
end

theorem wpListIn_app_src {F : Fence} {n : Nat} {P : Program} (w : World) {ops : Array Oper} {rest : List Oper} {o : Oper} {a : Act} {Q : Exit → Act → World → Prop}
    (hg : o.guard = none) (s x : Operand) (t tx : TypeId) (hop : o.op = Op.call { callee := Callee.builtin Builtin.append, args := #[s, x], argTypes := #[t, tx] })
    (base : Nat) (e : TypeId) (i : TypeInfo) (z : Value) (size bytes : Nat) (h1 : P.underlying t = some (.slice e)) (h2 : P.info? e = some i) (h3 : i.zero = some z) (h4 : i.size = size) (h5 : i.bytes = bytes) (h6 : z.cells.size = size)
    (g cap k : Nat) (xs : List Value) (hs : a.eval s = .slice (some ⟨g, 0, none⟩) k cap) (hown : w.ownsRow base e size (.slice (some ⟨g, 0, none⟩) k cap) k xs) (v : Value) (m : Nat) (news : List Value) (hx : a.eval x = v) (hsrc : Src P size tx v m news w)
    (b1 : k + m ≤ maxLen) (b2 : (k + m) * bytes ≤ 140737488355328) (b3 : base ≤ w.heap.size)
    (hK : ∀ g' cap' w', w'.ownsRow base e size (.slice (some ⟨g', 0, none⟩) (k + m) cap') (k + m) (xs ++ news) → w.grownBy w' (some g) → wpListIn F n P ops Q rest (a.put o.dst (.slice (some ⟨g', 0, none⟩) (k + m) cap')) w') :
    wpListIn F n P ops Q (o :: rest) a w := by
  refine wpListIn_plain hg fun K hK' => ?_
  obtain ⟨g', cap', w', hrun, r1, r2⟩ := run_app_src (P := P) w base t tx o.type e i z size bytes h1 h2 h3 h4 h5 h6 g cap k xs hown v m news hsrc b1 b2 b3
  unfold Oper.wpIn
  refine ⟨?_, ?_⟩
  · simp [Oper.about, hop, resolve, Target.leads, Sem.run_pure]
  · rw [Oper.semAt_plain F _ _ (by rw [hop]; intro c hc'; cases hc')]
    simp [execOp, hop, resolve, invoke, builtin, hs, hx, hrun, Result.andThen]
    exact hK' _ _ (hK g' cap' w' r1 r2)

theorem wp_app_src {P : Program} (w : World) {o : Oper} {a : Act} {K : Act → World → Prop} {Q : Exit → Act → World → Prop} (s x : Operand) (t tx : TypeId)
    (ho : o.op = .call { callee := .builtin .append, args := #[s, x], argTypes := #[t, tx] })
    (base : Nat) (e : TypeId) (i : TypeInfo) (z : Value) (size bytes : Nat) (h1 : P.underlying t = some (.slice e)) (h2 : P.info? e = some i) (h3 : i.zero = some z) (h4 : i.size = size) (h5 : i.bytes = bytes) (h6 : z.cells.size = size)
    (g cap k : Nat) (xs : List Value) (hs : a.eval s = .slice (some ⟨g, 0, none⟩) k cap) (hown : w.ownsRow base e size (.slice (some ⟨g, 0, none⟩) k cap) k xs) (v : Value) (m : Nat) (news : List Value) (hx : a.eval x = v) (hsrc : Src P size tx v m news w)
    (b1 : k + m ≤ maxLen) (b2 : (k + m) * bytes ≤ 140737488355328) (b3 : base ≤ w.heap.size)
    (h : ∀ g' cap' w', w'.ownsRow base e size (.slice (some ⟨g', 0, none⟩) (k + m) cap') (k + m) (xs ++ news) → w.grownBy w' (some g) → K (a.put o.dst (.slice (some ⟨g', 0, none⟩) (k + m) cap')) w') : o.wp P a w K Q := by
  obtain ⟨g', cap', w', hr, r1, r2⟩ := run_app_src (P := P) w base t tx o.type e i z size bytes h1 h2 h3 h4 h5 h6 g cap k xs hown v m news hsrc b1 b2 b3
  unfold Oper.wp execOp
  simp only [ho, resolve, invoke, builtin, Sem.run_bind, Sem.run_pure, Result.andThen_ok, List.map_toArray, List.map_cons, List.map_nil, hs, hx, hr]
  exact h g' cap' w' r1 r2

theorem wpList_app_src {P : Program} (w : World) {ops : Array Oper} {rest : List Oper} {o : Oper} {a : Act} {Q : Exit → Act → World → Prop} (hgd : o.guard = none) (s x : Operand) (t tx : TypeId)
    (ho : o.op = .call { callee := .builtin .append, args := #[s, x], argTypes := #[t, tx] })
    (base : Nat) (e : TypeId) (i : TypeInfo) (z : Value) (size bytes : Nat) (h1 : P.underlying t = some (.slice e)) (h2 : P.info? e = some i) (h3 : i.zero = some z) (h4 : i.size = size) (h5 : i.bytes = bytes) (h6 : z.cells.size = size)
    (g cap k : Nat) (xs : List Value) (hs : a.eval s = .slice (some ⟨g, 0, none⟩) k cap) (hown : w.ownsRow base e size (.slice (some ⟨g, 0, none⟩) k cap) k xs) (v : Value) (m : Nat) (news : List Value) (hx : a.eval x = v) (hsrc : Src P size tx v m news w)
    (b1 : k + m ≤ maxLen) (b2 : (k + m) * bytes ≤ 140737488355328) (b3 : base ≤ w.heap.size)
    (h : ∀ g' cap' w', w'.ownsRow base e size (.slice (some ⟨g', 0, none⟩) (k + m) cap') (k + m) (xs ++ news) → w.grownBy w' (some g) → wpList P ops Q rest (a.put o.dst (.slice (some ⟨g', 0, none⟩) (k + m) cap')) w') : wpList P ops Q (o :: rest) a w :=
  wpList_plain hgd fun _ hK => wp_app_src w s x t tx ho base e i z size bytes h1 h2 h3 h4 h5 h6 g cap k xs hs hown v m news hx hsrc b1 b2 b3 fun g' cap' w' r1 r2 => hK _ _ (h g' cap' w' r1 r2)
end Go.Proofs.YtnoeblnljfnecaaDoor
end
section
/- One element more, told as what the call leaves as it lay: in a plain walk, in a fence, in a region whose order is drawn. -/
namespace Go.Proofs.YtnoeblnljfnecaaDoor
open Go Go.RowKit

theorem wpList_app_fr {P : Program} {W : World} {ops : Array Oper} {rest : List Oper} {o : Oper} {a : Act} {Q : Exit → Act → World → Prop} (hgd : o.guard = none) (s x : Operand) (t : TypeId)
    (ho : o.op = .call { callee := .builtin .append, args := #[s, x], argTypes := #[t, t] })
    (base : Nat) (e : TypeId) (i : TypeInfo) (z : Value) (size bytes : Nat) (ht : P.underlying t = some (.slice e)) (hi : P.info? e = some i) (hz : i.zero = some z)
    (hsize : i.size = size) (hby : i.bytes = bytes) (hzs : z.cells.size = size) (hsz : 0 < size)
    (v : Value) (n : Nat) (xs : List Value) (hs : a.eval s = v) (hown : W.ownsRow base e size v n xs)
    (cs : Array Value) (N : Nat) (hx : a.eval x = .slice (some ⟨N, 0, none⟩) 1 1) (hN : W.heap.size = N) (hl : cs.size = size) (h1 : ∀ u ∈ cs.toList, u.oneCell' = true)
    (hn : n ≤ 1000000000) (hbs : bytes ≤ 1000) (hbase : base ≤ W.heap.size)
    (h : ∀ v' w', w'.ownsRow base e size v' (n + 1) (xs ++ cs.toList) → Fr (fun k => v.ownBlock = some k) W w' → wpList P ops Q rest (a.put o.dst v') w') :
    wpList P ops Q (o :: rest) a (W.alloc (.cells cs e)) := by
  subst hN
  have hnb : (n + 1) * bytes ≤ 140737488355328 := Nat.le_trans (Nat.mul_le_mul (show n + 1 ≤ 1000000001 by omega) hbs) (by decide)
  refine wpList_append_own _ hgd s x t ho base e i z size bytes ht hi hz hsize hby hzs hsz v n xs hs (hown.alloc _) ⟨W.heap.size, 0, none⟩ 1 1 cs.toList hx (by simpa using hl) (cells_new W cs e) h1 (by unfold maxLen; omega) hnb (by simp; omega) ?_
  intro v' w' hown' hgrow _
  exact h v' w' hown' (((Fr.refl _ W).alloc _).grown hgrow fun k hk => .inr hk)
theorem wpListIn_app_fr {P : Program} {W : World} {F : Fence} {fn : Nat} {ops : Array Oper} {rest : List Oper} {o : Oper} {a : Act} {Q : Exit → Act → World → Prop} (hgd : o.guard = none) (s x : Operand) (t : TypeId)
    (ho : o.op = .call { callee := .builtin .append, args := #[s, x], argTypes := #[t, t] })
    (base : Nat) (e : TypeId) (i : TypeInfo) (z : Value) (size bytes : Nat) (ht : P.underlying t = some (.slice e)) (hi : P.info? e = some i) (hz : i.zero = some z)
    (hsize : i.size = size) (hby : i.bytes = bytes) (hzs : z.cells.size = size) (hsz : 0 < size)
    (v : Value) (n : Nat) (xs : List Value) (hs : a.eval s = v) (hown : W.ownsRow base e size v n xs)
    (cs : Array Value) (N : Nat) (hx : a.eval x = .slice (some ⟨N, 0, none⟩) 1 1) (hN : W.heap.size = N) (hl : cs.size = size) (h1 : ∀ u ∈ cs.toList, u.oneCell' = true)
    (hn : n ≤ 1000000000) (hbs : bytes ≤ 1000) (hbase : base ≤ W.heap.size)
    (h : ∀ v' w', w'.ownsRow base e size v' (n + 1) (xs ++ cs.toList) → Fr (fun k => v.ownBlock = some k) W w' → wpListIn F fn P ops Q rest (a.put o.dst v') w') :
    wpListIn F fn P ops Q (o :: rest) a (W.alloc (.cells cs e)) := by
  subst hN
  have hnb : (n + 1) * bytes ≤ 140737488355328 := Nat.le_trans (Nat.mul_le_mul (show n + 1 ≤ 1000000001 by omega) hbs) (by decide)
  refine wpListIn_append_own _ hgd s x t ho base e i z size bytes ht hi hz hsize hby hzs hsz v n xs hs (hown.alloc _) ⟨W.heap.size, 0, none⟩ 1 1 cs.toList hx (by simpa using hl) (cells_new W cs e) h1 (by unfold maxLen; omega) hnb (by simp; omega) ?_
  intro v' w' hown' hgrow _
  exact h v' w' hown' (((Fr.refl _ W).alloc _).grown hgrow fun k hk => .inr hk)
theorem step_app_fr {P : Program} {W : World} {ys : Nat → Option Bool} {K : Act → World → Prop} {E : Prop} {o : Oper} {a : Act} {Q : Exit → Act → World → Prop} (hgd : o.guard = none) (s x : Operand) (t : TypeId)
    (ho : o.op = .call { callee := .builtin .append, args := #[s, x], argTypes := #[t, t] })
    (base : Nat) (e : TypeId) (i : TypeInfo) (z : Value) (size bytes : Nat) (ht : P.underlying t = some (.slice e)) (hi : P.info? e = some i) (hz : i.zero = some z)
    (hsize : i.size = size) (hby : i.bytes = bytes) (hzs : z.cells.size = size) (hsz : 0 < size)
    (v : Value) (n : Nat) (xs : List Value) (hs : a.eval s = v) (hown : W.ownsRow base e size v n xs)
    (cs : Array Value) (N : Nat) (hx : a.eval x = .slice (some ⟨N, 0, none⟩) 1 1) (hN : W.heap.size = N) (hl : cs.size = size) (h1 : ∀ u ∈ cs.toList, u.oneCell' = true)
    (hn : n ≤ 1000000000) (hbs : bytes ≤ 1000) (hbase : base ≤ W.heap.size)
    (h : ∀ v' w', w'.ownsRow base e size v' (n + 1) (xs ++ cs.toList) → Fr (fun k => v.ownBlock = some k) W w' → K (a.put o.dst v') w') :
    if Region.wanted o ys = true then Oper.wp P o a (W.alloc (.cells cs e)) K Q else E := by
  subst hN
  have hnb : (n + 1) * bytes ≤ 140737488355328 := Nat.le_trans (Nat.mul_le_mul (show n + 1 ≤ 1000000001 by omega) hbs) (by decide)
  rw [if_pos (by simp [Region.wanted, hgd])]
  refine wp_append_own _ s x t ho base e i z size bytes ht hi hz hsize hby hzs hsz v n xs hs (hown.alloc _) ⟨W.heap.size, 0, none⟩ 1 1 cs.toList hx (by simpa using hl) (cells_new W cs e) h1 (by unfold maxLen; omega) hnb (by simp; omega) ?_
  intro v' w' hown' hgrow _
  exact h v' w' hown' (((Fr.refl _ W).alloc _).grown hgrow fun k hk => .inr hk)
/-- a slice in its box, one element more -/
theorem fr_own {W W' : World} {base : Nat} {e : TypeId} {size : Nat} {v : Value} {n : Nat} {xs : List Value} (hown : W.ownsRow base e size v n xs) (h : Fr (fun k => v.ownBlock = some k) W W') {B : Nat} (hB : B < base) (hBl : B < W.heap.size) : W'.heap[B]? = W.heap[B]? :=
  h.block B hBl fun e => by have := (hown.lt B e).1; omega
theorem own_cells {W : World} {base : Nat} {e : TypeId} {size : Nat} {v : Value} {n : Nat} {xs : List Value} (hown : W.ownsRow base e size v n xs) (k : Nat) (hk : v.ownBlock = some k) : ∃ o, W.heap[k]? = some o ∧ o.isCells = true := by
  rcases hown.2 with ⟨rfl, _⟩ | ⟨g, cap, cur, rfl, _, h3, _⟩
  · cases hk
  · cases hk; exact ⟨_, h3, rfl⟩
end Go.Proofs.YtnoeblnljfnecaaDoor
end
section
/- append, with the word that the block of what comes is that of the slice, or a new one. -/
namespace Go.Proofs.YtnoeblnljfnecaaDoor
open Go Go.RowKit

theorem run_append_tie {P : Program} (w : World) (base : Nat) (t ty e : TypeId) (i : TypeInfo) (z : Value) (size bytes : Nat) (ht : P.underlying t = some (.slice e)) (hi : P.info? e = some i) (hz : i.zero = some z)
    (hsize : i.size = size) (hby : i.bytes = bytes) (v : Value) (n : Nat) (xs : List Value) (hown : w.ownsRow base e size v n xs)
    (a : Addr) (m c : Nat) (news : List Value) (hl : news.length = m * size) (hnews : ∀ j u, news[j]? = some u → w.cell? (a.add j) = some u) (h1 : ∀ u ∈ news, u.oneCell' = true)
    (h63 : n + m ≤ maxLen) (hbytes : (n + m) * bytes ≤ 140737488355328) {v' : Value} {w' : World} (hr' : (Builtin.append_ #[t, t] ty #[v, .slice (some a) m c]).run P w = .ok v' w') :
    ∀ k, v'.ownBlock = some k → v.ownBlock = some k ∨ w.heap.size ≤ k := by
  subst hsize
  subst hby
  have hsmall : n + m ≤ 9223372036854775807 := by simp only [maxLen] at h63; omega
  rcases hown.2 with ⟨rfl, rfl⟩ | ⟨g, cap, cur, rfl, hbg, hg, hnc, hcm, hcs, htake⟩
  · have hx : xs = [] := List.eq_nil_of_length_eq_zero (by simpa using hown.1)
    subst hx
    by_cases hm : m = 0
    · subst hm
      have hr : (Builtin.append_ #[t, t] ty #[.slice none 0 0, .slice (some a) 0 c]).run P w = .ok (.slice none 0 0) w := by
        simp [Builtin.append_, run_underlying ht, sizeOf, typeInfo, hi, Builtin.lenOf, Builtin.firstCells, loadCells, loadCellsFrom]
      rw [hr] at hr'
      cases hr'
      intro k hk; cases hk
    · have hr := run_append_nil (P := P) w t ty e i z ht hi hz a m c news hl hnews (by omega) (by omega) (by have hb := hbytes; simp only [Nat.zero_add] at hb; omega)
      rw [hr] at hr'
      cases hr'
      intro k hk; cases hk; exact .inr (Nat.le_refl _)
  · by_cases hroom : n + m ≤ cap
    · have hfit : n * i.size + news.length ≤ cur.size := by rw [hl, hcs, ← Nat.add_mul]; exact Nat.mul_le_mul_right _ hroom
      have hr := run_append_room (P := P) w t ty e i ht hi g n cap cur hg a m c news hl hnews h1 hroom hfit
      rw [hr] at hr'
      cases hr'
      intro k hk; exact .inl hk
    · have holds : ∀ j u, xs[j]? = some u → w.cell? ((⟨g, 0, none⟩ : Addr).add j) = some u := hown.cells (g := g) rfl
      have hr := run_append_grow (P := P) w t ty e i z ht hi hz ⟨g, 0, none⟩ n cap xs hown.1 holds a m c news hl hnews (by omega) (by omega) (growslice_fits (by omega) hbytes)
      rw [hr] at hr'
      cases hr'
      intro k hk; cases hk; exact .inr (Nat.le_refl _)

section
variable {P : Program} {W : World} {ops : Array Oper} {rest : List Oper} {o : Oper} {a : Act} {Q : Exit → Act → World → Prop}
/-- any slice behind a slice of the call's own -/
theorem wpList_app_t (hgd : o.guard = none) (s x : Operand) (t : TypeId)
    (ho : o.op = .call { callee := .builtin .append, args := #[s, x], argTypes := #[t, t] })
    (base : Nat) (e : TypeId) (i : TypeInfo) (z : Value) (size bytes : Nat) (ht : P.underlying t = some (.slice e)) (hi : P.info? e = some i) (hz : i.zero = some z)
    (hsize : i.size = size) (hby : i.bytes = bytes) (hzs : z.cells.size = size) (hsz : 0 < size)
    (v : Value) (n : Nat) (xs : List Value) (hs : a.eval s = v) (hown : W.ownsRow base e size v n xs)
    (ad : Addr) (m c : Nat) (news : List Value) (hx : a.eval x = .slice (some ad) m c) (hl : news.length = m * size) (hnews : ∀ j u, news[j]? = some u → W.cell? (ad.add j) = some u) (h1 : ∀ u ∈ news, u.oneCell' = true)
    (hn : n + m ≤ 1000000000) (hbs : bytes ≤ 1000) (hbase : base ≤ W.heap.size)
    (h : ∀ v' w', w'.ownsRow base e size v' (n + m) (xs ++ news) → Fr (fun k => v.ownBlock = some k) W w' → (∀ k, v'.ownBlock = some k → v.ownBlock = some k ∨ W.heap.size ≤ k) → wpList P ops Q rest (a.put o.dst v') w') :
    wpList P ops Q (o :: rest) a W := by
  have hnb : (n + m) * bytes ≤ 140737488355328 := Nat.le_trans (Nat.mul_le_mul hn hbs) (by decide)
  have h63 : n + m ≤ maxLen := by unfold maxLen; omega
  refine wpList_plain hgd fun _ hK => ?_
  obtain ⟨v', w', hr, h2, h3, h4⟩ := run_append_own (P := P) W base t o.type e i z size bytes ht hi hz hsize hby hzs hsz v n xs hown ad m c news hl hnews h1 h63 hnb hbase
  have htie := run_append_tie W base t o.type e i z size bytes ht hi hz hsize hby v n xs hown ad m c news hl hnews h1 h63 hnb hr
  unfold Oper.wp execOp
  simp only [ho, resolve, invoke, builtin, Sem.run_bind, Sem.run_pure, Result.andThen_ok, List.map_toArray, List.map_cons, List.map_nil, hs, hx, hr]
  exact hK _ _ (h v' w' h2 ((Fr.refl _ W).grown h3 fun k hk => .inr hk) htie)
theorem wpListIn_app_t {F : Fence} {fn : Nat} (hgd : o.guard = none) (s x : Operand) (t : TypeId)
    (ho : o.op = .call { callee := .builtin .append, args := #[s, x], argTypes := #[t, t] })
    (base : Nat) (e : TypeId) (i : TypeInfo) (z : Value) (size bytes : Nat) (ht : P.underlying t = some (.slice e)) (hi : P.info? e = some i) (hz : i.zero = some z)
    (hsize : i.size = size) (hby : i.bytes = bytes) (hzs : z.cells.size = size) (hsz : 0 < size)
    (v : Value) (n : Nat) (xs : List Value) (hs : a.eval s = v) (hown : W.ownsRow base e size v n xs)
    (ad : Addr) (m c : Nat) (news : List Value) (hx : a.eval x = .slice (some ad) m c) (hl : news.length = m * size) (hnews : ∀ j u, news[j]? = some u → W.cell? (ad.add j) = some u) (h1 : ∀ u ∈ news, u.oneCell' = true)
    (hn : n + m ≤ 1000000000) (hbs : bytes ≤ 1000) (hbase : base ≤ W.heap.size)
    (h : ∀ v' w', w'.ownsRow base e size v' (n + m) (xs ++ news) → Fr (fun k => v.ownBlock = some k) W w' → (∀ k, v'.ownBlock = some k → v.ownBlock = some k ∨ W.heap.size ≤ k) → wpListIn F fn P ops Q rest (a.put o.dst v') w') :
    wpListIn F fn P ops Q (o :: rest) a W := by
  have hnb : (n + m) * bytes ≤ 140737488355328 := Nat.le_trans (Nat.mul_le_mul hn hbs) (by decide)
  have h63 : n + m ≤ maxLen := by unfold maxLen; omega
  refine wpListIn_plain hgd fun K hK' => ?_
  obtain ⟨v', w', hr, h2, h3, h4⟩ := run_append_own (P := P) W base t o.type e i z size bytes ht hi hz hsize hby hzs hsz v n xs hown ad m c news hl hnews h1 h63 hnb hbase
  have htie := run_append_tie W base t o.type e i z size bytes ht hi hz hsize hby v n xs hown ad m c news hl hnews h1 h63 hnb hr
  unfold Oper.wpIn
  refine ⟨?_, ?_⟩
  · simp [Oper.about, ho, resolve, Target.leads, Sem.run_pure]
  · rw [Oper.semAt_plain F _ _ (by rw [ho]; intro c hc'; cases hc')]
    simp [execOp, ho, resolve, invoke, builtin, hs, hx, hr, Result.andThen]
    exact hK' _ _ (h v' w' h2 ((Fr.refl _ W).grown h3 fun k hk => .inr hk) htie)
/-- one element more, that lies in the newest block -/
theorem wpList_one_t (hgd : o.guard = none) (s x : Operand) (t : TypeId)
    (ho : o.op = .call { callee := .builtin .append, args := #[s, x], argTypes := #[t, t] })
    (base : Nat) (e : TypeId) (i : TypeInfo) (z : Value) (size bytes : Nat) (ht : P.underlying t = some (.slice e)) (hi : P.info? e = some i) (hz : i.zero = some z)
    (hsize : i.size = size) (hby : i.bytes = bytes) (hzs : z.cells.size = size) (hsz : 0 < size)
    (v : Value) (n : Nat) (xs : List Value) (hs : a.eval s = v) (hown : W.ownsRow base e size v n xs)
    (cs : Array Value) (N : Nat) (hx : a.eval x = .slice (some ⟨N, 0, none⟩) 1 1) (hN : W.heap.size = N) (hl : cs.size = size) (h1 : ∀ u ∈ cs.toList, u.oneCell' = true)
    (hn : n ≤ 900000000) (hbs : bytes ≤ 1000) (hbase : base ≤ W.heap.size)
    (h : ∀ v' w', w'.ownsRow base e size v' (n + 1) (xs ++ cs.toList) → Fr (fun k => v.ownBlock = some k) W w' → (∀ k, v'.ownBlock = some k → v.ownBlock = some k ∨ W.heap.size ≤ k) → wpList P ops Q rest (a.put o.dst v') w') :
    wpList P ops Q (o :: rest) a (W.alloc (.cells cs e)) := by
  subst hN
  refine wpList_app_t hgd s x t ho base e i z size bytes ht hi hz hsize hby hzs hsz v n xs hs (hown.alloc _) ⟨W.heap.size, 0, none⟩ 1 1 cs.toList hx (by simpa using hl) (cells_new W cs e) h1 (by omega) hbs (by simp; omega) fun v' w' h2 h3 h4 => ?_
  exact h v' w' h2 (((Fr.refl _ W).alloc _).trans3 h3 fun k _ e => e) fun k hk => (h4 k hk).imp id fun e => by simp at e; omega
theorem wpListIn_one_t {F : Fence} {fn : Nat} (hgd : o.guard = none) (s x : Operand) (t : TypeId)
    (ho : o.op = .call { callee := .builtin .append, args := #[s, x], argTypes := #[t, t] })
    (base : Nat) (e : TypeId) (i : TypeInfo) (z : Value) (size bytes : Nat) (ht : P.underlying t = some (.slice e)) (hi : P.info? e = some i) (hz : i.zero = some z)
    (hsize : i.size = size) (hby : i.bytes = bytes) (hzs : z.cells.size = size) (hsz : 0 < size)
    (v : Value) (n : Nat) (xs : List Value) (hs : a.eval s = v) (hown : W.ownsRow base e size v n xs)
    (cs : Array Value) (N : Nat) (hx : a.eval x = .slice (some ⟨N, 0, none⟩) 1 1) (hN : W.heap.size = N) (hl : cs.size = size) (h1 : ∀ u ∈ cs.toList, u.oneCell' = true)
    (hn : n ≤ 900000000) (hbs : bytes ≤ 1000) (hbase : base ≤ W.heap.size)
    (h : ∀ v' w', w'.ownsRow base e size v' (n + 1) (xs ++ cs.toList) → Fr (fun k => v.ownBlock = some k) W w' → (∀ k, v'.ownBlock = some k → v.ownBlock = some k ∨ W.heap.size ≤ k) → wpListIn F fn P ops Q rest (a.put o.dst v') w') :
    wpListIn F fn P ops Q (o :: rest) a (W.alloc (.cells cs e)) := by
  subst hN
  refine wpListIn_app_t hgd s x t ho base e i z size bytes ht hi hz hsize hby hzs hsz v n xs hs (hown.alloc _) ⟨W.heap.size, 0, none⟩ 1 1 cs.toList hx (by simpa using hl) (cells_new W cs e) h1 (by omega) hbs (by simp; omega) fun v' w' h2 h3 h4 => ?_
  exact h v' w' h2 (((Fr.refl _ W).alloc _).trans3 h3 fun k _ e => e) fun k hk => (h4 k hk).imp id fun e => by simp at e; omega
end
end Go.Proofs.YtnoeblnljfnecaaDoor
end
section
/- append onto a slice of the call's own, nil or not, from whatever source (a text, a slice, nil), with the word of whose block it is. -/
namespace Go.Proofs.YtnoeblnljfnecaaDoor
open Go Go.RowKit

theorem run_app_any {P : Program} (w : World) (base : Nat) (t tx ty e : TypeId) (i : TypeInfo) (z : Value) (size bytes : Nat) (ht : P.underlying t = some (.slice e)) (hi : P.info? e = some i) (hz : i.zero = some z)
    (hsize : i.size = size) (hby : i.bytes = bytes) (hzs : z.cells.size = size) (v : Value) (n : Nat) (xs : List Value)
    (hown : w.ownsRow base e size v n xs) (x : Value) (m : Nat) (news : List Value) (hs : Src P size tx x m news w)
    (h63 : n + m ≤ maxLen) (hbytes : (n + m) * bytes ≤ 140737488355328) (hbase : base ≤ w.heap.size) :
    ∃ v' w', (Builtin.append_ #[t, tx] ty #[v, x]).run P w = .ok v' w' ∧ w'.ownsRow base e size v' (n + m) (xs ++ news) ∧ Fr (fun k => v.ownBlock = some k) w w' ∧ (∀ k, v'.ownBlock = some k → v.ownBlock = some k ∨ w.heap.size ≤ k) := by
  subst hsize
  subst hby
  have hsmall : n + m ≤ 9223372036854775807 := by simp only [maxLen] at h63; omega
  have hlen : (xs ++ news).length = (n + m) * i.size := by rw [List.length_append, hown.1, hs.newsLen, Nat.add_mul]
  have hown' := hown
  have fresh : ∀ (old : Nat) (olds : List Value), olds = xs → ∀ X, Fr X w (w.drew.alloc (.cells ((olds ++ news).toArray ++ Builtin.zeroCells z.cells (grownCap w (n + m) old e - (n + m))) e)) ∧
      (w.drew.alloc (.cells ((olds ++ news).toArray ++ Builtin.zeroCells z.cells (grownCap w (n + m) old e - (n + m))) e)).ownsRow base e i.size (.slice (some ⟨w.heap.size, 0, none⟩) (n + m) (grownCap w (n + m) old e)) (n + m) (xs ++ news) := by
    rintro old olds rfl X
    refine ⟨((Fr.refl _ w).drew).alloc _, ⟨hlen, .inr ⟨w.heap.size, _, _, rfl, hbase, heap_alloc_new w.drew _, grownCap_ge w (n + m) old e, grownCap_le_maxLen w (n + m) old e h63, ?_, ?_⟩⟩⟩
    · simp only [Array.size_append, List.size_toArray, size_zeroCells, hzs, hlen, ← Nat.add_mul]
      have := grownCap_ge w (n + m) old e
      congr 1
      omega
    · simp only [Array.toList_append]
      rw [← hlen]
      exact List.take_left
  rcases hown.2 with ⟨rfl, rfl⟩ | ⟨g, cap, cur, rfl, hbg, hg, hnc, hcm, hcs, htake⟩
  · have hx : xs = [] := List.eq_nil_of_length_eq_zero (by simpa using hown.1)
    subst hx
    by_cases hm : m = 0
    · subst hm
      have hn0 : news = [] := List.eq_nil_of_length_eq_zero (by simpa using hs.newsLen)
      subst hn0
      have hr : (Builtin.append_ #[t, tx] ty #[.slice none 0 0, x]).run P w = .ok (.slice none 0 0) w := by
        have hl0 : ∀ w' : World, (Builtin.lenOf (.slice none 0 0)).run P w' = .ok 0 w' := fun _ => rfl
        rcases hs.kind with ⟨e', hk⟩ | hk <;> simp [Builtin.append_, run_underlying ht, run_underlying hk, sizeOf, typeInfo, hi, hl0, hs.len, hs.cells]
      exact ⟨_, _, hr, by simpa using hown', Fr.refl _ _, (fun k hk => .inl hk)⟩
    · have hr := run_append_grow_src (P := P) w t tx ty e i z ht hi hz none 0 0 [] (run_firstCells_none w.drew i.size 0 0 0) x m news hs (by omega) (by omega) (growslice_fits (by omega) hbytes)
      obtain ⟨f1, f2⟩ := fresh 0 [] rfl (fun k => (Value.slice none 0 0).ownBlock = some k)
      exact ⟨_, _, hr, f2, f1, fun k hk => by cases hk; exact .inr (Nat.le_refl _)⟩
  · by_cases hroom : n + m ≤ cap
    · have hfit : n * i.size + news.length ≤ cur.size := by rw [hs.newsLen, hcs, ← Nat.add_mul]; exact Nat.mul_le_mul_right _ hroom
      have hr := run_room_src (P := P) w t tx ty e i ht hi g n cap cur hg x m news hs hroom hfit
      refine ⟨_, _, hr, ⟨hlen, .inr ⟨g, cap, _, rfl, hbg, setRow_heap w g cur _ e _ hg, hroom, hcm, ?_, ?_⟩⟩, ⟨rfl, rfl, rfl, by simp, fun k _ hk => setRow_other w g k _ (fun e => hk (by simp [Value.ownBlock, e]))⟩, fun k hk => .inl hk⟩
      · simp only [List.size_toArray, List.length_append, List.length_take, List.length_drop, Array.length_toList]
        omega
      · rw [htake, ← hlen]
        exact List.take_left
    · have holds : ∀ j u, xs[j]? = some u → w.cell? ((⟨g, 0, none⟩ : Addr).add j) = some u := hown'.cells (g := g) rfl
      have hold := run_firstCells_some (P := P) w.drew i.size n ⟨g, 0, none⟩ n cap xs hown'.1 (by simpa using holds)
      have hr := run_append_grow_src (P := P) w t tx ty e i z ht hi hz (some ⟨g, 0, none⟩) n cap xs hold x m news hs (by omega) (by omega) (growslice_fits (by omega) hbytes)
      obtain ⟨f1, f2⟩ := fresh cap xs rfl (fun k => (Value.slice (some ⟨g, 0, none⟩) n cap).ownBlock = some k)
      exact ⟨_, _, hr, f2, f1, fun k hk => by cases hk; exact .inr (Nat.le_refl _)⟩
section
variable {P : Program} {w : World} {ops : Array Oper} {rest : List Oper} {o : Oper} {a : Act} {Q : Exit → Act → World → Prop}
theorem wpList_app_u (hgd : o.guard = none) (s x : Operand) (t tx : TypeId)
    (ho : o.op = .call { callee := .builtin .append, args := #[s, x], argTypes := #[t, tx] })
    (base : Nat) (e : TypeId) (i : TypeInfo) (z : Value) (size bytes : Nat) (h1 : P.underlying t = some (.slice e)) (h2 : P.info? e = some i) (h3 : i.zero = some z) (h4 : i.size = size) (h5 : i.bytes = bytes) (h6 : z.cells.size = size)
    (v : Value) (n : Nat) (xs : List Value) (hs : a.eval s = v) (hown : w.ownsRow base e size v n xs) (u : Value) (m : Nat) (news : List Value) (hx : a.eval x = u) (hsrc : Src P size tx u m news w)
    (b1 : n + m ≤ 1000000000) (b2 : bytes ≤ 1000) (b3 : base ≤ w.heap.size)
    (h : ∀ v' w', w'.ownsRow base e size v' (n + m) (xs ++ news) → Fr (fun k => v.ownBlock = some k) w w' → (∀ k, v'.ownBlock = some k → v.ownBlock = some k ∨ w.heap.size ≤ k) → wpList P ops Q rest (a.put o.dst v') w') : wpList P ops Q (o :: rest) a w := by
  refine wpList_plain hgd fun _ hK => ?_
  obtain ⟨v', w', hr, r1, r2, r3⟩ := run_app_any (P := P) w base t tx o.type e i z size bytes h1 h2 h3 h4 h5 h6 v n xs hown u m news hsrc (by unfold maxLen; omega) (Nat.le_trans (Nat.mul_le_mul b1 b2) (by decide)) b3
  unfold Oper.wp execOp
  simp only [ho, resolve, invoke, builtin, Sem.run_bind, Sem.run_pure, Result.andThen_ok, List.map_toArray, List.map_cons, List.map_nil, hs, hx, hr]
  exact hK _ _ (h v' w' r1 r2 r3)
theorem wpListIn_app_u {F : Fence} {fn : Nat} (hgd : o.guard = none) (s x : Operand) (t tx : TypeId)
    (ho : o.op = .call { callee := .builtin .append, args := #[s, x], argTypes := #[t, tx] })
    (base : Nat) (e : TypeId) (i : TypeInfo) (z : Value) (size bytes : Nat) (h1 : P.underlying t = some (.slice e)) (h2 : P.info? e = some i) (h3 : i.zero = some z) (h4 : i.size = size) (h5 : i.bytes = bytes) (h6 : z.cells.size = size)
    (v : Value) (n : Nat) (xs : List Value) (hs : a.eval s = v) (hown : w.ownsRow base e size v n xs) (u : Value) (m : Nat) (news : List Value) (hx : a.eval x = u) (hsrc : Src P size tx u m news w)
    (b1 : n + m ≤ 1000000000) (b2 : bytes ≤ 1000) (b3 : base ≤ w.heap.size)
    (h : ∀ v' w', w'.ownsRow base e size v' (n + m) (xs ++ news) → Fr (fun k => v.ownBlock = some k) w w' → (∀ k, v'.ownBlock = some k → v.ownBlock = some k ∨ w.heap.size ≤ k) → wpListIn F fn P ops Q rest (a.put o.dst v') w') : wpListIn F fn P ops Q (o :: rest) a w := by
  refine wpListIn_plain hgd fun K hK' => ?_
  obtain ⟨v', w', hr, r1, r2, r3⟩ := run_app_any (P := P) w base t tx o.type e i z size bytes h1 h2 h3 h4 h5 h6 v n xs hown u m news hsrc (by unfold maxLen; omega) (Nat.le_trans (Nat.mul_le_mul b1 b2) (by decide)) b3
  unfold Oper.wpIn
  refine ⟨?_, ?_⟩
  · simp [Oper.about, ho, resolve, Target.leads, Sem.run_pure]
  · rw [Oper.semAt_plain F _ _ (by rw [ho]; intro c hc'; cases hc')]
    simp [execOp, ho, resolve, invoke, builtin, hs, hx, hr, Result.andThen]
    exact hK' _ _ (h v' w' r1 r2 r3)
end
end Go.Proofs.YtnoeblnljfnecaaDoor
end
section
/- Rows of texts of the call's own; slices.Values at texts. -/
namespace Go.Proofs.YtnoeblnljfnecaaDoor
set_option linter.unusedVariables false
set_option linter.unusedSimpArgs false
open Go Go.RowKit Go.Lib
attribute [local go_sem] Oper.semAt_some

/-- a text in a cell, as it is told -/
def encT (x : List UInt8) : Value := .string (bs x)
def encL (x : List UInt8) : Array Value := #[.string (bs x)]
def OwnT (base : Nat) (W : World) (v : Value) (xs : List (List UInt8)) : Prop := W.ownsRow base 9 1 v xs.length (xs.map encT)
theorem Tryd.infoT : (Tryd.prog.info? 9).map (fun i => (i.zero, i.size, i.bytes)) = some (some (.string ByteArray.empty), 1, 16) := by kernel_rfl
theorem ownT_kept {base : Nat} {w W : World} {v : Value} {xs : List (List UInt8)} (h : OwnT base w v xs) (hs : ∀ g, v.ownBlock = some g → W.heap[g]? = w.heap[g]?) : OwnT base W v xs := row_same h hs
theorem ownT_nil (base : Nat) (w : World) : OwnT base w (.slice none 0 0) [] := World.ownsRow_nil _ _ _ _
theorem ownT_base {W : World} {base base' : Nat} {v : Value} {xs : List (List UInt8)} (h : OwnT base W v xs) (hb : base' ≤ base) : OwnT base' W v xs := by
  obtain ⟨h1, h2⟩ := h
  refine ⟨h1, ?_⟩
  rcases h2 with h2 | ⟨g, cap, cur, h3, h4, h5⟩
  · exact .inl h2
  · exact .inr ⟨g, cap, cur, h3, by omega, h5⟩
theorem ownT_snoc {base : Nat} {w : World} {v : Value} {xs : List (List UInt8)} {x : List UInt8} (h : w.ownsRow base 9 1 v (xs.length + 1) (xs.map encT ++ [encT x])) : OwnT base w v (xs ++ [x]) := by
  unfold OwnT; rw [List.length_append, List.map_append]; exact h
/-- texts as they are read -/
def ReadsT (w : World) (A : Option Addr) (xs : List (List UInt8)) : Prop := 0 < xs.length → ∃ g o, A = some ⟨g, o, none⟩ ∧ g < w.heap.size ∧ ∀ j (h : j < xs.length), w.cell? ⟨g, o + j, none⟩ = some (.string (bs xs[j]))
theorem reads_ownT {base : Nat} {w : World} {A : Option Addr} {n c : Nat} {xs : List (List UInt8)} (h : OwnT base w (.slice A n c) xs) : ReadsT w A xs := fun h0 => by
  have h' := h
  rcases h.2 with ⟨h1, h2⟩ | ⟨g, cap, cur, h1, h3, h4, h5, _, h6, h7⟩
  · omega
  · injection h1 with q1 q2 q3
    subst q1
    refine ⟨g, 0, rfl, blk_lt h4, fun j hj => ?_⟩
    have := h'.cells (g := g) rfl j (encT xs[j]) (by simp [hj])
    have hadd : (⟨g, 0, none⟩ : Addr).add j = ⟨g, 0 + j, none⟩ := by
      unfold Addr.add
      split
      · simp_all
      · rfl
    rw [hadd] at this
    exact this
theorem ReadsT.below {w W : World} {A : Option Addr} {xs : List (List UInt8)} (h : ReadsT w A xs) {n : Nat} (hb : Below n w W) (hn : w.heap.size ≤ n := by exact Nat.le_refl _) : ReadsT W A xs := fun h0 => by
  obtain ⟨g, o, rfl, hg, h1⟩ := h h0
  exact ⟨g, o, rfl, Nat.lt_of_lt_of_le hg hb.size, fun j hj => (World.cell?_of_block (w := w) (w' := W) (a := ⟨g, o + j, none⟩) (hb.block g (by omega))).trans (h1 j hj)⟩
/-- the blocks of a tale -/
def rowYT (B : Nat) (v : Value) : Nat → Prop := fun b => b = B ∨ v.ownBlock = some b





end Go.Proofs.YtnoeblnljfnecaaDoor
end
section
/- strings.SplitSeq at one byte, as a function that ranges and writes a box of its own. -/
namespace Go.Proofs.YtnoeblnljfnecaaDoor
set_option linter.unusedVariables false
set_option linter.unusedSimpArgs false
open Go Go.RowKit Go.Shelf Go.Lib
attribute [local go_sem] Oper.semAt_some

/-- the pieces between bytes c -/
def splitC (c : UInt8) : List UInt8 → List (List UInt8)
  | [] => [[]]
  | b :: r => if b = c then [] :: splitC c r else match splitC c r with
    | [] => [[b]]
    | p :: ps => (b :: p) :: ps
theorem splitC_ne (c : UInt8) : ∀ l, splitC c l ≠ []
  | [] => by simp [splitC]
  | b :: r => by
    unfold splitC
    split
    · simp
    · split <;> simp
theorem splitC_len (c : UInt8) : ∀ l, (splitC c l).length ≤ l.length + 1
  | [] => by simp [splitC]
  | b :: r => by
    have h := splitC_len c r
    unfold splitC
    split
    · simp; omega
    · split
      · simp
      · rename_i p ps hp
        rw [hp] at h
        simp at h ⊢
        omega
theorem splitC_none (c : UInt8) : ∀ p : List UInt8, c ∉ p → splitC c p = [p]
  | [], _ => rfl
  | b :: r, h => by
    have h1 : ¬ b = c := fun e => h (by rw [e]; exact List.mem_cons_self)
    unfold splitC
    rw [if_neg h1, splitC_none c r (fun e => h (List.mem_cons_of_mem _ e))]
theorem splitC_cut (c : UInt8) : ∀ (p q : List UInt8), c ∉ p → splitC c (p ++ c :: q) = p :: splitC c q
  | [], q, _ => by simp [splitC]
  | b :: r, q, h => by
    have h1 : ¬ b = c := fun e => h (by rw [e]; exact List.mem_cons_self)
    rw [List.cons_append]
    conv => lhs; unfold splitC
    rw [if_neg h1, splitC_cut c r q (fun e => h (List.mem_cons_of_mem _ e))]
theorem splitC_no (c : UInt8) (R : ByteArray) (h : Lib.indexByte R.data.toList c = -1) : splitC c R.data.toList = [R.data.toList] :=
  splitC_none c _ (fun hm => by
    obtain ⟨k, hk⟩ := List.getElem?_of_mem hm
    exact Lib.indexByte_none h k hk)
theorem splitC_at (c : UInt8) (R : ByteArray) (o : Nat) (h : Lib.indexByte R.data.toList c = o) : o < R.size ∧ splitC c R.data.toList = (R.extract 0 o).data.toList :: splitC c (R.extract (o + 1) R.size).data.toList := by
  obtain ⟨h1, h2⟩ := Lib.indexByte_some h
  have ho : o < R.data.toList.length := (List.getElem?_eq_some_iff.1 h1).1
  have e : R.data.toList = R.data.toList.take o ++ c :: R.data.toList.drop (o + 1) := by
    have h3 := List.drop_eq_getElem_cons ho
    have h4 : R.data.toList[o] = c := (List.getElem?_eq_some_iff.1 h1).2
    rw [h4] at h3
    rw [← h3, List.take_append_drop]
  have hn : c ∉ R.data.toList.take o := fun hm => by
    obtain ⟨k, hk⟩ := List.getElem?_of_mem hm
    rw [List.getElem?_take] at hk
    split at hk
    · exact h2 k ‹_› hk
    · cases hk
  refine ⟨by simpa using ho, ?_⟩
  have e1 : (R.extract 0 o).data.toList = R.data.toList.take o := by simp
  have e2 : (R.extract (o + 1) R.size).data.toList = R.data.toList.drop (o + 1) := by
    simp [List.take_of_length_le]
  rw [e1, e2]
  conv => lhs; rw [e]
  exact splitC_cut c _ _ hn
/-- the call: three boxes -/
theorem splitc_any (s : ByteArray) (c : UInt8) (w : World) :
    Calls Tryd.prog 15 #[.string s, .string ⟨#[c]⟩] w fun e w' => e = .returned (.func (.func 24) #[] #[.pointer (some ⟨w.heap.size + 1, 0, none⟩), .pointer (some ⟨w.heap.size, 0, none⟩), .pointer (some ⟨w.heap.size + 1 + 1, 0, none⟩)]) ∧
      w' = ((w.alloc (.cells #[.string s] 9)).alloc (.cells #[.string ⟨#[c]⟩] 9)).alloc (.cells #[.int .i64 0] 3) := by
  have h : Calls Tryd.prog 20 #[.string s, .string ⟨#[c]⟩, .int .i64 0] w fun e w' => e = .returned (.func (.func 24) #[] #[.pointer (some ⟨w.heap.size + 1, 0, none⟩), .pointer (some ⟨w.heap.size, 0, none⟩), .pointer (some ⟨w.heap.size + 1 + 1, 0, none⟩)]) ∧
      w' = ((w.alloc (.cells #[.string s] 9)).alloc (.cells #[.string ⟨#[c]⟩] 9)).alloc (.cells #[.int .i64 0] 3) := by
    go_enter Tryd.func20, Tryd.ntmps20
    go_wp2_with fail
    go_ret
    exact ⟨rfl, rfl⟩
  go_enter Tryd.func15, Tryd.ntmps15
  go_wp2_with fail
  refine h.mono ?_
  rintro e w' ⟨rfl, rfl⟩
  go_wp2_with fail
  go_ret
  exact ⟨rfl, rfl⟩
def SplB (B : Nat) (c : UInt8) (R : ByteArray) (W : World) : Prop := W.heap[B]? = some (.cells #[.string R] 9 (0, 0)) ∧ W.heap[B + 1]? = some (.cells #[.string ⟨#[c]⟩] 9 (0, 0)) ∧ W.heap[B + 1 + 1]? = some (.cells #[.int .i64 0] 3 (0, 0))
set_option maxRecDepth 100000 in
set_option maxHeartbeats 8000000 in
theorem split_seqZ (B : Nat) (c : UInt8) (s : ByteArray) (w : World) (hs : s.size ≤ 1000000) (hb : SplB B c s w) :
    SeqZ Tryd.prog 24 #[.pointer (some ⟨B + 1, 0, none⟩), .pointer (some ⟨B, 0, none⟩), .pointer (some ⟨B + 1 + 1, 0, none⟩)] encL (fun b => b = B + 1 ∨ b = B + 1 + 1) (fun b => b = B) (splitC c s.data.toList) w := fun l J Jx X V hsm hYl hX hJ hJx hY h0 => by
  have kB := (hsm B (.inr rfl)).trans hb.1
  have k1 := (hsm (B + 1) (.inl (.inl rfl))).trans hb.2.1
  have k2 := (hsm (B + 1 + 1) (.inl (.inr rfl))).trans hb.2.2
  have hXB : ¬ X B ∧ ¬ X (B + 1) ∧ ¬ X (B + 1 + 1) := ⟨fun e => (hX _ e).2 (.inr rfl), fun e => (hX _ e).2 (.inl (.inl rfl)), fun e => (hX _ e).2 (.inl (.inr rfl))⟩
  have H := Lib.hid (And.intro hX (And.intro hJ (And.intro hJx (And.intro hY hXB))))
  have hBV := blk_lt k2
  have e1 := blk_cell k1 0
  have hfix : ∀ W, Fr (fun k => X k ∨ k = B) V W → W.heap[B + 1]? = some (.cells #[.string ⟨#[c]⟩] 9 (0, 0)) ∧ W.heap[B + 1 + 1]? = some (.cells #[.int .i64 0] 3 (0, 0)) := fun W hf => ⟨hf.blk k1 fun e => e.elim hXB.2.1 (by omega), hf.blk k2 fun e => e.elim hXB.2.2 (by omega)⟩
  have HFX := Lib.hid hfix
  have h00 : Hid (∃ X1 pre, GrowX X X1 V V ∧ Fr (fun k => X k ∨ k = B) V V ∧ J pre X1 V ∧ pre ++ splitC c s.data.toList = splitC c s.data.toList ∧ V.heap[B]? = some (.cells #[.string s] 9 (0, 0))) :=
    ⟨X, [], GrowX.refl fun k hk => (hX k hk).1, Fr.refl _ _, h0, rfl, kB⟩
  clear hb hsm hYl hX hJ hJx hY h0 kB k1 k2 hXB hfix
  refine (callsIn_wide (n := 20)).1 ?_
  refine callsIn_of_wp Tryd.func24 rfl trivial ?_ rfl
  simp only [Tryd.ntmps24, List.size_toArray, List.length_cons, List.length_nil, Nat.reduceAdd, Nat.reduceSub, Array.replicate_succ, Array.replicate_zero, List.push_toArray, List.append_toArray, List.nil_append, List.cons_append]
  gi_wp2_with fail
  gi_loopg [29] s.size (fun r _ wr => ∃ R : ByteArray, r = R.size ∧ R.size ≤ s.size ∧ Hid (∃ X1 pre, GrowX X X1 V wr ∧ Fr (fun k => X k ∨ k = B) V wr ∧ J pre X1 wr ∧ pre ++ splitC c R.data.toList = splitC c s.data.toList ∧ wr.heap[B]? = some (.cells #[.string R] 9 (0, 0))))
  case atStart => exact ⟨s, rfl, Nat.le_refl _, h00⟩
  case round =>
    clear h00 e1
    obtain ⟨R, hr, hRs, HR⟩ := hrel
    have HG := Lib.hid hr
    clear hr
    obtain ⟨X1, pre, g1, f1, j1, hsp, kB⟩ := HR.out
    obtain ⟨kk1, kk2⟩ := HFX.out _ f1
    have c0 := blk_cell kB 0
    have z0 := blk_free kB 0
    have c1 := blk_cell kk1 0
    have c2 := blk_cell kk2 0
    have HR1 := Lib.hid (And.intro g1 (And.intro f1 (And.intro j1 (And.intro hsp kB))))
    clear g1 f1 j1 hsp kB HR kk1 kk2
    have hR : R.size ≤ 1000000 := by omega
    have hix := fun W => ix1 R c W hR
    have hge := Lib.indexByte_ge R.data.toList c
    by_cases hno : Lib.indexByte R.data.toList c = -1
    · rw [hno] at hix
      have HIX := Lib.hid hix
      have HNO := Lib.hid (splitC_no c R hno)
      clear hno hge hix
      obtain ⟨hX, hJ, hJx, hY, hXB⟩ := H.out
      obtain ⟨g1, f1, j1, hsp, kB⟩ := HR1.out
      have hsp4 : pre ++ R.data.toList :: [] = splitC c s.data.toList := by rw [← hsp, HNO.out]
      obtain ⟨fn, tmps, assign, body, hy, hRd⟩ := hY pre R.data.toList [] X1 wr hsp4 g1 j1 f1
      simp only [encL, bs_of] at hy
      have HP := Lib.hid (And.intro g1 (And.intro f1 (And.intro hsp4 hJx)))
      clear hX hJ hJx hY hXB g1 f1 j1 hsp kB hsp4
      gi_wp2_with fail
      refine ⟨trivial, (calls_wide (.inl rfl) (HIX.out _)).mono ?_⟩
      rintro e w' ⟨rfl, rfl⟩
      gi_wp2_with fail
      refine (round_wide (.inl rfl) hRd).mono ?_
      rintro e W5 ⟨X2, g2, f2, (⟨rfl, hJ3⟩ | ⟨rfl, hJx3⟩)⟩
      · obtain ⟨g4, f4, hsp4, hJx⟩ := HP.out
        have HN : Hid (∃ X2, GrowX X X2 V W5 ∧ Fr (fun k => X k ∨ k = B) V W5 ∧ J (splitC c s.data.toList) X2 W5) :=
          ⟨X2, g4.trans g2 f4.size, f4.trans3 f2 fun k hk e => .inl ((g4 k e).2 hk), by rw [← hsp4]; exact hJ3⟩
        clear g4 f4 hsp4 hJx g2 f2 hJ3 hRd hy
        gi_wp2_with fail
        go_end0
        obtain ⟨X3, a1, a2, a3⟩ := HN.out
        exact ⟨⟨_, rfl⟩, X3, a1, a2, .inl a3⟩
      · obtain ⟨g4, f4, hsp4, hJx⟩ := HP.out
        have HN : Hid (∃ X2, GrowX X X2 V W5 ∧ Fr (fun k => X k ∨ k = B) V W5 ∧ ∃ pre r, pre ++ r = splitC c s.data.toList ∧ Jx pre X2 W5) :=
          ⟨X2, g4.trans g2 f4.size, f4.trans3 f2 fun k hk e => .inl ((g4 k e).2 hk), _, [], by rw [List.append_nil]; exact hsp4, hJx3⟩
        clear g4 f4 hsp4 hJx g2 f2 hJx3 hRd hy
        gi_wp2_with fail
        go_end0
        obtain ⟨X3, a1, a2, a3⟩ := HN.out
        exact ⟨⟨_, rfl⟩, X3, a1, a2, .inr a3⟩
    · obtain ⟨o, ho⟩ : ∃ o : Nat, Lib.indexByte R.data.toList c = o := ⟨(Lib.indexByte R.data.toList c).toNat, by omega⟩
      obtain ⟨hoR, hso⟩ := splitC_at c R o ho
      rw [ho] at hix
      have HIX := Lib.hid hix
      have hrs : (R.extract (o + 1) R.size).size = R.size - (o + 1) := by simp
      have HRS := Lib.hid hrs
      have hp0 : ¬ ((o : Int) < 0) := by omega
      have hp1 : (o : Int) ≤ (R.size : Int) := by omega
      have hp2 : (o : Int) + 1 ≤ (R.size : Int) := by omega
      obtain ⟨hX, hJ, hJx, hY, hXB⟩ := H.out
      obtain ⟨g1, f1, j1, hsp, kB⟩ := HR1.out
      have hsp4 : pre ++ (R.extract 0 o).data.toList :: splitC c (R.extract (o + 1) R.size).data.toList = splitC c s.data.toList := by rw [← hsp, hso]
      obtain ⟨fn, tmps, assign, body, hy, hRd⟩ := hY pre (R.extract 0 o).data.toList _ X1 wr hsp4 g1 j1 f1
      simp only [encL, bs_of] at hy
      have hX1B : ¬ X1 B := fun e => hXB.1 ((g1 B e).2 (by omega))
      have hsep : ∀ W, Fr X1 wr W → W.heap[B]? = some (.cells #[.string R] 9 (0, 0)) ∧ W.heap[B + 1]? = some (.cells #[.string ⟨#[c]⟩] 9 (0, 0)) := fun W hf => by
        obtain ⟨kk1, kk2⟩ := HFX.out _ f1
        exact ⟨hf.blk kB hX1B, hf.blk kk1 fun e => hXB.2.1 ((g1 _ e).2 (by omega))⟩
      have HP := Lib.hid (And.intro g1 (And.intro f1 (And.intro hsp4 (And.intro hJ (And.intro hJx (And.intro hX1B hsep))))))
      clear hX hJ hJx hY hXB g1 f1 j1 hsp kB hsp4 hno hge ho hrs hso hix hX1B hsep
      gi_wp2_with fail
      refine ⟨trivial, (calls_wide (.inl rfl) (HIX.out _)).mono ?_⟩
      rintro e w' ⟨rfl, rfl⟩
      gi_wp2_with fail
      refine (round_wide (.inl rfl) hRd).mono ?_
      rintro e W5 ⟨X2, g2, f2, (⟨rfl, hJ3⟩ | ⟨rfl, hJx3⟩)⟩
      · obtain ⟨g4, f4, hsp4, hJ, hJx, hX1B, hsep⟩ := HP.out
        obtain ⟨m0, m1⟩ := hsep W5 f2
        have d0 := blk_cell m0 0
        have d1 := blk_cell m1 0
        have y0 := blk_free m0 0
        obtain ⟨W6, hW6⟩ : ∃ W6, W5.setCell ⟨B, 0, none⟩ (.string (R.extract (o + 1) R.size)) = W6 := ⟨_, rfl⟩
        have fB : Fr (fun k => k = B) W5 W6 := by rw [← hW6]; exact Fr.setCell (X := fun k => k = B) (Fr.refl _ _) ⟨B, 0, none⟩ rfl _
        have zB : W6.heap.size = W5.heap.size := by rw [← hW6]; simp
        have hX2B : ¬ X2 B := fun e => hX1B ((g2 B e).2 (by have := f4.size; omega))
        have HN : Hid (∃ X1 pre, GrowX X X1 V W6 ∧ Fr (fun k => X k ∨ k = B) V W6 ∧ J pre X1 W6 ∧ pre ++ splitC c (R.extract (o + 1) R.size).data.toList = splitC c s.data.toList ∧ W6.heap[B]? = some (.cells #[.string (R.extract (o + 1) R.size)] 9 (0, 0))) :=
          ⟨X2, _, fun k hk => ⟨by rw [zB]; exact ((g4.trans g2 f4.size) k hk).1, ((g4.trans g2 f4.size) k hk).2⟩, (f4.trans3 f2 fun k hk e => .inl ((g4 k e).2 hk)).trans3 fB fun k _ e => .inr e, hJ.fr hJ3 (fun k hk => (g2 k hk).1) fB fun k e h => hX2B (e ▸ h), by rw [List.append_assoc]; exact hsp4, by rw [← hW6]; exact blk_set m0 0 _⟩
        rw [← hW6] at HN
        clear g4 f4 hsp4 hJ hJx hX1B hsep g2 f2 hJ3 hRd hy m0 m1 hW6 fB zB hX2B c0 c1 z0
        gi_wp2_with fail
        gi_roundg (R.extract (o + 1) R.size).size
        case measure => rw [HG.out, HRS.out]; omega
        case rel => exact ⟨_, rfl, by rw [HRS.out]; omega, HN⟩
      · obtain ⟨g4, f4, hsp4, hJ, hJx, hX1B, hsep⟩ := HP.out
        have HN : Hid (∃ X2, GrowX X X2 V W5 ∧ Fr (fun k => X k ∨ k = B) V W5 ∧ ∃ pre r, pre ++ r = splitC c s.data.toList ∧ Jx pre X2 W5) :=
          ⟨X2, g4.trans g2 f4.size, f4.trans3 f2 fun k hk e => .inl ((g4 k e).2 hk), _, splitC c (R.extract (o + 1) R.size).data.toList, by rw [List.append_assoc]; exact hsp4, hJx3⟩
        clear g4 f4 hsp4 hJ hJx hX1B hsep g2 f2 hJx3 hRd hy
        gi_wp2_with fail
        refine bodyPost_ret (results_none rfl _ _ _) rfl ?_
        obtain ⟨X3, a1, a2, a3⟩ := HN.out
        exact ⟨⟨_, rfl⟩, X3, a1, a2, .inr a3⟩
end Go.Proofs.YtnoeblnljfnecaaDoor
end
section
/- Layer 21: mathematics: letters, nicknames between commas, what WATCH asks for. -/
namespace Go.Proofs.YtnoeblnljfnecaaDoor
set_option linter.unusedVariables false
set_option linter.unusedSimpArgs false
open Go Go.RowKit

def letV (l : List UInt8) : UInt8 := if l = [67] then 67 else if l = [99] then 67 else if l = [76] then 76 else if l = [108] then 76 else if l = [83] then 83 else if l = [115] then 83 else 0
noncomputable def nickB (l : List UInt8) : Bool := dec (NickP (bs l))
noncomputable def nicksV (l : List UInt8) : List (List UInt8) := (splitC 44 l).filter nickB
theorem nickB_nil : nickB [] = false := (dec_no fun h => absurd h.1.1 (by decide)).symm
theorem splitC_mem_len (c : UInt8) : ∀ (l : List UInt8), ∀ p ∈ splitC c l, p.length ≤ l.length
  | [], p, hp => by simp [splitC] at hp; simp [hp]
  | b :: r, p, hp => by
    have ih := splitC_mem_len c r
    unfold splitC at hp
    split at hp
    · rw [List.mem_cons] at hp
      rcases hp with rfl | hp
      · simp
      · have := ih p hp; simp; omega
    · split at hp
      · simp at hp; subst hp; simp
      · rename_i q qs hq
        rw [List.mem_cons] at hp
        rcases hp with rfl | hp
        · have := ih q (by rw [hq]; exact List.mem_cons_self); simp; omega
        · have := ih p (by rw [hq]; exact List.mem_cons_of_mem _ hp); simp; omega
abbrev WishV := UInt8 × List UInt8
noncomputable def wishV (l : List UInt8) : Option WishV := if letV l ≠ 0 then some (letV l, []) else match l with
  | [] => none
  | c :: r => if (c = 43 ∨ c = 45) ∧ nickB r = true then some (c, r) else none
noncomputable def watchV (ps : List (List UInt8)) : List WishV := ps.filterMap wishV
noncomputable def watchA (ps : List (List UInt8)) : List WishV := if ps = [] then [(76, [])] else watchV ps
theorem watchV_snoc (ps : List (List UInt8)) (p : List UInt8) : watchV (ps ++ [p]) = watchV ps ++ (wishV p).toList := by
  unfold watchV
  rw [List.filterMap_append]
  cases h : wishV p <;> simp [h]
theorem watchV_len (ps : List (List UInt8)) : (watchV ps).length ≤ ps.length := List.length_filterMap_le _ _
theorem letV_long {l : List UInt8} (h : l.length ≠ 1) : letV l = 0 := by
  have : ∀ x : UInt8, l ≠ [x] := fun x e => h (by rw [e]; rfl)
  unfold letV
  simp [this]
def opM (ps : List (List UInt8)) : UInt8 := match ps with
  | [] => 0
  | p :: _ => if p = [43] then 43 else if p = [45] then 45 else letV p
noncomputable def namesM (ps : List (List UInt8)) : List (List UInt8) := match ps with
  | p :: q :: _ => if p = [43] ∨ p = [45] then nicksV q else []
  | _ => []
end Go.Proofs.YtnoeblnljfnecaaDoor
end
section
/- Layer 21: letter, both. -/
namespace Go.Proofs.YtnoeblnljfnecaaDoor
set_option linter.unusedVariables false
set_option linter.unusedSimpArgs false
open Go Go.RowKit

theorem let_cases (s : ByteArray) : s = ⟨#[67]⟩ ∨ s = ⟨#[99]⟩ ∨ s = ⟨#[76]⟩ ∨ s = ⟨#[108]⟩ ∨ s = ⟨#[83]⟩ ∨ s = ⟨#[115]⟩ ∨
    (letV s.data.toList = 0 ∧ ∀ x : UInt8, x ∈ ([67, 99, 76, 108, 83, 115] : List UInt8) → (s.toList == [x]) = false ∧ ([x] == s.toList) = false ∧ s ≠ ⟨#[x]⟩) := by
  by_cases h1 : s = ⟨#[67]⟩
  · exact .inl h1
  by_cases h2 : s = ⟨#[99]⟩
  · exact .inr (.inl h2)
  by_cases h3 : s = ⟨#[76]⟩
  · exact .inr (.inr (.inl h3))
  by_cases h4 : s = ⟨#[108]⟩
  · exact .inr (.inr (.inr (.inl h4)))
  by_cases h5 : s = ⟨#[83]⟩
  · exact .inr (.inr (.inr (.inr (.inl h5))))
  by_cases h6 : s = ⟨#[115]⟩
  · exact .inr (.inr (.inr (.inr (.inr (.inl h6)))))
  have key : ∀ x : UInt8, s ≠ ⟨#[x]⟩ → s.data.toList ≠ [x] := fun x h e => h (ba_ext (by rw [e]))
  refine .inr (.inr (.inr (.inr (.inr (.inr ⟨?_, fun x hx => ?_⟩)))))
  · unfold letV
    rw [if_neg (key _ h1), if_neg (key _ h2), if_neg (key _ h3), if_neg (key _ h4), if_neg (key _ h5), if_neg (key _ h6)]
  · have hne : s ≠ ⟨#[x]⟩ := by
      simp only [List.mem_cons, List.not_mem_nil, or_false] at hx
      rcases hx with rfl | rfl | rfl | rfl | rfl | rfl <;> assumption
    have := key x hne
    rw [ByteArray.toList_eq]
    exact ⟨by simpa using this, by simpa using fun e => this e.symm, hne⟩
set_option maxHeartbeats 4000000 in
theorem letter_w (s : ByteArray) (w : World) : Calls Tryd.prog 11 #[.string s] w fun e w' => e = .returned (.int .u8 (letV s.data.toList).toNat) ∧ w = w' := by
  rcases let_cases s with rfl | rfl | rfl | rfl | rfl | rfl | ⟨h0, h⟩
  iterate 6
    · go_enter Tryd.func11, Tryd.ntmps11
      go_wp2_with fail
      go_ret
      exact ⟨rfl, rfl⟩
  · have q1 := (h 67 (by simp)).1
    have q2 := (h 99 (by simp)).1
    have q3 := (h 76 (by simp)).1
    have q4 := (h 108 (by simp)).1
    have q5 := (h 83 (by simp)).1
    have q6 := (h 115 (by simp)).1
    rw [h0]
    clear h h0
    go_enter Tryd.func11, Tryd.ntmps11
    go_wp2_with fail
    go_ret
    exact ⟨rfl, rfl⟩
set_option maxHeartbeats 8000000 in
theorem letter_r (s : ByteArray) (w : World) : Calls Tryd.prog 12 #[.string s] w fun e w' => e = .returned (.int .u8 (letV s.data.toList).toNat) ∧ w = w' := by
  have x0 : (⟨#[67, 76, 83]⟩ : ByteArray).extract 0 1 = ⟨#[67]⟩ := by rfl
  have x1 : (⟨#[67, 76, 83]⟩ : ByteArray).extract 1 2 = ⟨#[76]⟩ := by rfl
  have x2 : (⟨#[67, 76, 83]⟩ : ByteArray).extract 2 3 = ⟨#[83]⟩ := by rfl
  have y0 : (⟨#[99, 108, 115]⟩ : ByteArray).extract 0 1 = ⟨#[99]⟩ := by rfl
  have y1 : (⟨#[99, 108, 115]⟩ : ByteArray).extract 1 2 = ⟨#[108]⟩ := by rfl
  have y2 : (⟨#[99, 108, 115]⟩ : ByteArray).extract 2 3 = ⟨#[115]⟩ := by rfl
  rcases let_cases s with rfl | rfl | rfl | rfl | rfl | rfl | ⟨h0, h⟩
  · go_enter Tryd.func12, Tryd.ntmps12
    go_wp2_with fail
    go_loopw [3] (fun i wr => ∃ k : Nat, k ≤ 0 ∧ i = .int .i64 k ∧ wr = w) (fun i _ => 3 - (RowKit.intOf i).toNat)
    case atStart => exact ⟨0, by omega, rfl, rfl⟩
    case round =>
      obtain ⟨k, hk, rfl, rfl⟩ := hrel
      rcases k with _ | k
      · go_wp2_with fail
        go_ret
        exact ⟨rfl, rfl⟩
      · omega
  · go_enter Tryd.func12, Tryd.ntmps12
    go_wp2_with fail
    go_loopw [3] (fun i wr => ∃ k : Nat, k ≤ 0 ∧ i = .int .i64 k ∧ wr = w) (fun i _ => 3 - (RowKit.intOf i).toNat)
    case atStart => exact ⟨0, by omega, rfl, rfl⟩
    case round =>
      obtain ⟨k, hk, rfl, rfl⟩ := hrel
      rcases k with _ | k
      · go_wp2_with fail
        go_ret
        exact ⟨rfl, rfl⟩
      · omega
  · go_enter Tryd.func12, Tryd.ntmps12
    go_wp2_with fail
    go_loopw [3] (fun i wr => ∃ k : Nat, k ≤ 1 ∧ i = .int .i64 k ∧ wr = w) (fun i _ => 3 - (RowKit.intOf i).toNat)
    case atStart => exact ⟨0, by omega, rfl, rfl⟩
    case round =>
      obtain ⟨k, hk, rfl, rfl⟩ := hrel
      rcases k with _ | _ | k
      · go_wp2_with fail
        go_roundw
        case rel => exact ⟨1, by omega, by go_num, trivial⟩
        case measure => simp [RowKit.intOf]
      · go_wp2_with fail
        go_ret
        exact ⟨rfl, rfl⟩
      · omega
  · go_enter Tryd.func12, Tryd.ntmps12
    go_wp2_with fail
    go_loopw [3] (fun i wr => ∃ k : Nat, k ≤ 1 ∧ i = .int .i64 k ∧ wr = w) (fun i _ => 3 - (RowKit.intOf i).toNat)
    case atStart => exact ⟨0, by omega, rfl, rfl⟩
    case round =>
      obtain ⟨k, hk, rfl, rfl⟩ := hrel
      rcases k with _ | _ | k
      · go_wp2_with fail
        go_roundw
        case rel => exact ⟨1, by omega, by go_num, trivial⟩
        case measure => simp [RowKit.intOf]
      · go_wp2_with fail
        go_ret
        exact ⟨rfl, rfl⟩
      · omega
  · go_enter Tryd.func12, Tryd.ntmps12
    go_wp2_with fail
    go_loopw [3] (fun i wr => ∃ k : Nat, k ≤ 2 ∧ i = .int .i64 k ∧ wr = w) (fun i _ => 3 - (RowKit.intOf i).toNat)
    case atStart => exact ⟨0, by omega, rfl, rfl⟩
    case round =>
      obtain ⟨k, hk, rfl, rfl⟩ := hrel
      rcases k with _ | _ | _ | k
      · go_wp2_with fail
        go_roundw
        case rel => exact ⟨1, by omega, by go_num, trivial⟩
        case measure => simp [RowKit.intOf]
      · go_wp2_with fail
        go_roundw
        case rel => exact ⟨2, by omega, by go_num, trivial⟩
        case measure => simp [RowKit.intOf]
      · go_wp2_with fail
        go_ret
        exact ⟨rfl, rfl⟩
      · omega
  · go_enter Tryd.func12, Tryd.ntmps12
    go_wp2_with fail
    go_loopw [3] (fun i wr => ∃ k : Nat, k ≤ 2 ∧ i = .int .i64 k ∧ wr = w) (fun i _ => 3 - (RowKit.intOf i).toNat)
    case atStart => exact ⟨0, by omega, rfl, rfl⟩
    case round =>
      obtain ⟨k, hk, rfl, rfl⟩ := hrel
      rcases k with _ | _ | _ | k
      · go_wp2_with fail
        go_roundw
        case rel => exact ⟨1, by omega, by go_num, trivial⟩
        case measure => simp [RowKit.intOf]
      · go_wp2_with fail
        go_roundw
        case rel => exact ⟨2, by omega, by go_num, trivial⟩
        case measure => simp [RowKit.intOf]
      · go_wp2_with fail
        go_ret
        exact ⟨rfl, rfl⟩
      · omega
  · have q1 := (h 67 (by simp)).1
    have q2 := (h 99 (by simp)).1
    have q3 := (h 76 (by simp)).1
    have q4 := (h 108 (by simp)).1
    have q5 := (h 83 (by simp)).1
    have q6 := (h 115 (by simp)).1
    rw [h0]
    clear h h0
    go_enter Tryd.func12, Tryd.ntmps12
    go_wp2_with fail
    go_loopw [3] (fun i wr => ∃ k : Nat, k ≤ 3 ∧ i = .int .i64 k ∧ wr = w) (fun i _ => 3 - (RowKit.intOf i).toNat)
    case atStart => exact ⟨0, by omega, rfl, rfl⟩
    case round =>
      obtain ⟨k, hk, rfl, rfl⟩ := hrel
      rcases k with _ | _ | _ | _ | k
      · go_wp2_with fail
        go_roundw
        case rel => exact ⟨1, by omega, by go_num, trivial⟩
        case measure => simp [RowKit.intOf]
      · go_wp2_with fail
        go_roundw
        case rel => exact ⟨2, by omega, by go_num, trivial⟩
        case measure => simp [RowKit.intOf]
      · go_wp2_with fail
        go_roundw
        case rel => exact ⟨3, by omega, by go_num, trivial⟩
        case measure => simp [RowKit.intOf]
      · go_wp2_with fail
        go_ret
        exact ⟨rfl, rfl⟩
      · omega
end Go.Proofs.YtnoeblnljfnecaaDoor
end
section
/- ValidNames, walked. -/
namespace Go.Proofs.YtnoeblnljfnecaaDoor
open Go.RowKit

theorem nickP_ab : NickP ⟨#[97, 45, 98]⟩ := by
  refine ⟨by decide, fun i hi => ?_⟩
  have hi' : i < 3 := hi
  rcases (by omega : i = 0 ∨ i = 1 ∨ i = 2) with rfl | rfl | rfl <;> rfl
theorem nickP_da : ¬ NickP ⟨#[45, 97]⟩ := fun h => by
  have := h.2 0 (by decide)
  rw [show nickAt 0 (⟨#[45, 97]⟩ : ByteArray)[0] = false from by kernel_rfl] at this; cases this
theorem nickP_1a : ¬ NickP ⟨#[49, 97]⟩ := fun h => by
  have := h.2 0 (by decide)
  rw [show nickAt 0 (⟨#[49, 97]⟩ : ByteArray)[0] = false from by kernel_rfl] at this; cases this
theorem chanP_a : ChanP ⟨#[35, 97]⟩ := by
  refine ⟨by decide, ⟨by decide, by kernel_rfl⟩, fun i hi => ?_⟩
  have hi' : i < 2 := hi
  rcases (by omega : i = 0 ∨ i = 1) with rfl | rfl <;> rfl
theorem chanP_h : ¬ ChanP ⟨#[35]⟩ := fun h => by
  have := h.1.1; revert this; decide



end Go.Proofs.YtnoeblnljfnecaaDoor
end
section
/- fold.Compare: which of two texts stands ahead. -/
namespace Go.Proofs.YtnoeblnljfnecaaDoor
open Go.RowKit

def foldL (l : List UInt8) : List UInt8 := l.map foldB
@[simp] theorem foldL_nil : foldL [] = [] := rfl
@[simp] theorem foldL_cons (x : UInt8) (l : List UInt8) : foldL (x :: l) = foldB x :: foldL l := rfl
@[simp] theorem foldL_length (l : List UInt8) : (foldL l).length = l.length := by simp [foldL]
@[simp] theorem foldL_append (a b : List UInt8) : foldL (a ++ b) = foldL a ++ foldL b := by simp [foldL]

/-- which of two rows of bytes stands ahead -/
def cmpL : List UInt8 → List UInt8 → Int
  | [], [] => 0
  | [], _ :: _ => -1
  | _ :: _, [] => 1
  | x :: xs, y :: ys => if x.toNat < y.toNat then -1 else if y.toNat < x.toNat then 1 else cmpL xs ys

theorem ba_drop (s : ByteArray) (k : Nat) (h : k < s.size) : s.data.toList.drop k = s[k] :: s.data.toList.drop (k + 1) := by
  rw [List.drop_eq_getElem_cons (by simpa using h)]; rfl
theorem ba_drop_end (s : ByteArray) (k : Nat) (h : s.size ≤ k) : s.data.toList.drop k = [] := by
  rw [List.drop_eq_nil_iff]; simpa using h
theorem ba_take (s : ByteArray) (k : Nat) (h : k < s.size) : s.data.toList.take (k + 1) = s.data.toList.take k ++ [s[k]] := by
  rw [List.take_succ_eq_append_getElem (by simpa using h)]; rfl
theorem ba_len (s : ByteArray) : s.data.toList.length = s.size := by simp

/-- two texts, folded, from a place on -/
def cmpAt (a b : ByteArray) (k : Nat) : Int := cmpL (foldL (a.data.toList.drop k)) (foldL (b.data.toList.drop k))
theorem cmpAt_stop {a b : ByteArray} {k : Nat} (ha : k < a.size) (hb : k < b.size) (h : cmpI ↑(foldB a[k]).toNat ↑(foldB b[k]).toNat ≠ 0) :
    cmpI ↑(foldB a[k]).toNat ↑(foldB b[k]).toNat = cmpAt a b k := by
  unfold cmpAt
  rw [ba_drop a k ha, ba_drop b k hb]
  simp only [foldL_cons, cmpL]
  unfold cmpI at *
  split
  · rw [if_pos (by omega)]
  · rename_i h1
    rw [if_neg h1] at h
    split
    · rw [if_neg (by omega), if_pos (by omega)]
    · rename_i h2; rw [if_neg h2] at h; exact absurd rfl h
theorem cmpAt_step {a b : ByteArray} {k : Nat} (ha : k < a.size) (hb : k < b.size) (h : cmpI ↑(foldB a[k]).toNat ↑(foldB b[k]).toNat = 0) :
    cmpAt a b (k + 1) = cmpAt a b k := by
  unfold cmpAt
  rw [ba_drop a k ha, ba_drop b k hb]
  simp only [foldL_cons, cmpL]
  unfold cmpI at h
  split at h
  · cases h
  · split at h
    · cases h
    · rw [if_neg (by omega), if_neg (by omega)]
theorem cmpAt_end {a b : ByteArray} {k : Nat} (h : k = a.size ∨ k = b.size) (ha : k ≤ a.size) (hb : k ≤ b.size) : cmpI ↑a.size ↑b.size = cmpAt a b k := by
  unfold cmpAt
  by_cases h1 : k < a.size
  · rw [ba_drop a k h1, ba_drop_end b k (by omega), cmpI_gt (by omega)]; rfl
  · rw [ba_drop_end a k (by omega)]
    by_cases h2 : k < b.size
    · rw [ba_drop b k h2, cmpI_lt (by omega)]; rfl
    · rw [ba_drop_end b k (by omega), cmpI_eq (by omega)]; rfl





/-- what compares two texts, folded -/
def cmpF (a b : List UInt8) : Int := cmpL (foldL a) (foldL b)
end Go.Proofs.YtnoeblnljfnecaaDoor
end
section
/- fold.Same, fold.Prefix; the document's Byte. -/
namespace Go.Proofs.YtnoeblnljfnecaaDoor
open Go.RowKit

theorem cmpL_zero : ∀ {a b : List UInt8}, cmpL a b = 0 ↔ a = b
  | [], [] => by simp [cmpL]
  | [], _ :: _ => by simp [cmpL]
  | _ :: _, [] => by simp [cmpL]
  | x :: xs, y :: ys => by
    simp only [cmpL, List.cons.injEq]
    by_cases h1 : x.toNat < y.toNat
    · rw [if_pos h1]; constructor
      · intro h; cases h
      · rintro ⟨rfl, _⟩; omega
    · rw [if_neg h1]
      by_cases h2 : y.toNat < x.toNat
      · rw [if_pos h2]; constructor
        · intro h; cases h
        · rintro ⟨rfl, _⟩; omega
      · rw [if_neg h2, cmpL_zero]
        have : x = y := UInt8.toNat_inj.mp (by omega)
        simp [this]

/-- are two texts alike? -/
def sameF (a b : List UInt8) : Bool := foldL a == foldL b
theorem sameF_iff {a b : List UInt8} : sameF a b = true ↔ foldL a = foldL b := by simp [sameF]
theorem sameF_len {a b : List UInt8} (h : a.length ≠ b.length) : sameF a b = false := by
  rw [Bool.eq_false_iff]; intro e
  rw [sameF_iff] at e
  have := congrArg List.length e
  simp at this; exact h this
theorem sameF_cmp (a b : List UInt8) : (cmpF a b == 0) = sameF a b := by
  rw [Bool.eq_iff_iff, sameF_iff, beq_iff_eq]; exact cmpL_zero

end Go.Proofs.YtnoeblnljfnecaaDoor
end
section
/- fold.Prefix; the document's Byte. -/
namespace Go.Proofs.YtnoeblnljfnecaaDoor
open Go.RowKit

theorem ba_extract0 (s : ByteArray) (n : Nat) : (s.extract 0 n).data.toList = s.data.toList.take n := by
  simp [ByteArray.data_extract]
theorem ba_extract_to (s : ByteArray) (n : Nat) : (s.extract n s.size).data.toList = s.data.toList.drop n := by
  simp only [ByteArray.data_extract, Array.toList_extract, List.extract_eq_take_drop]
  rw [List.take_of_length_le]; simp



def fromB : ByteArray := ⟨#[65, 66, 67, 68, 69, 70, 71, 72, 73, 74, 75, 76, 77, 78, 79, 80, 81, 82, 83, 84, 85, 86, 87, 88, 89, 90, 91, 93, 92, 126]⟩
def toB : ByteArray := ⟨#[97, 98, 99, 100, 101, 102, 103, 104, 105, 106, 107, 108, 109, 110, 111, 112, 113, 114, 115, 116, 117, 118, 119, 120, 121, 122, 123, 125, 124, 94]⟩
theorem from_found : ∀ k : Fin 30, foldB (fromB[k.1]'(k.2)) = toB[k.1]'(k.2) := by decide +kernel
theorem from_all : ∀ n : Fin 256, foldB (UInt8.ofNat n) = UInt8.ofNat n ∨ ∃ k : Fin 30, fromB[k.1]'(k.2) = UInt8.ofNat n := by decide +kernel
theorem from_none (b : UInt8) (h : ∀ k : Fin 30, fromB[k.1]'(k.2) ≠ b) : foldB b = b := by
  have := from_all ⟨b.toNat, b.toNat_lt⟩
  simp only [UInt8.ofNat_toNat] at this
  rcases this with h1 | ⟨k, hk⟩
  · exact h1
  · exact absurd hk (h k)

end Go.Proofs.YtnoeblnljfnecaaDoor
end
