/- Texts of this proof, one behind the other. -/
import Derived.OwnWalkIn
import Derived.Test.YtkbgpajconhgjaaGreatDoorPersonLinesG1
import Derived.Test.YtkbgpajconhgjaaGreatDoorPersonLinesG3
import Derived.Lib.Hide
import Derived.Test.YtkbgpajconhgjaaGreatDoorChecked
import Derived.Sort.LoopGhostIn
import Derived.Stop.RegionWithIn
import Derived.LoopIn
import Derived.Deep.LoopGhost
import Derived.Shelf.Strings.Builder1
import Derived.Shelf.Strings.OnBuilder
set_option linter.unusedVariables false
set_option linter.unusedSimpArgs false
section
/- One element more, told as what the call leaves as it lay: in a plain walk, in a fence, in a region whose order is drawn. -/
namespace Go.Proofs.YtkbgpajconhgjaaGreatDoor
open Go Go.RowKit

theorem wpList_app_fr {P : Program} {W : World} {ops : Array Oper} {rest : List Oper} {o : Oper} {a : Act} {Q : Exit → Act → World → Prop} (hgd : o.guard = none) (s x : Operand) (t : TypeId)
    (ho : o.op = .call { callee := .builtin .append, args := #[s, x], argTypes := #[t, t] })
    (base : Nat) (e : TypeId) (i : TypeInfo) (z : Value) (size bytes : Nat) (ht : P.underlying t = some (.slice e)) (hi : P.info? e = some i) (hz : i.zero = some z)
    (hsize : i.size = size) (hby : i.bytes = bytes) (hzs : z.cells.size = size) (hsz : 0 < size)
    (v : Value) (n : Nat) (xs : List Value) (hs : a.eval s = v) (hown : W.ownsRow base e size v n xs)
    (cs : Array Value) (N : Nat) (hx : a.eval x = .slice (some ⟨N, 0, none⟩) 1 1) (hN : W.heap.size = N) (hl : cs.size = size) (h1 : ∀ u ∈ cs.toList, u.oneCell' = true)
    (hn : n ≤ 1000000000) (hbs : bytes ≤ 1000) (hbase : base ≤ W.heap.size)
    (h : ∀ v' w', w'.ownsRow base e size v' (n + 1) (xs ++ cs.toList) → Fr (fun k => v.ownBlock = some k) W w' → wpList P ops Q rest (a.put o.dst v') w') :
    wpList P ops Q (o :: rest) a (W.alloc (.cells cs e)) := by
  subst hN
  have hnb : (n + 1) * bytes ≤ 140737488355328 := Nat.le_trans (Nat.mul_le_mul (show n + 1 ≤ 1000000001 by omega) hbs) (by decide)
  refine wpList_append_own _ hgd s x t ho base e i z size bytes ht hi hz hsize hby hzs hsz v n xs hs (hown.alloc _) ⟨W.heap.size, 0, none⟩ 1 1 cs.toList hx (by simpa using hl) (cells_new W cs e) h1 (by unfold maxLen; omega) hnb (by simp; omega) ?_
  intro v' w' hown' hgrow _
  exact h v' w' hown' (((Fr.refl _ W).alloc _).grown hgrow fun k hk => .inr hk)
theorem wpListIn_app_fr {P : Program} {W : World} {F : Fence} {fn : Nat} {ops : Array Oper} {rest : List Oper} {o : Oper} {a : Act} {Q : Exit → Act → World → Prop} (hgd : o.guard = none) (s x : Operand) (t : TypeId)
    (ho : o.op = .call { callee := .builtin .append, args := #[s, x], argTypes := #[t, t] })
    (base : Nat) (e : TypeId) (i : TypeInfo) (z : Value) (size bytes : Nat) (ht : P.underlying t = some (.slice e)) (hi : P.info? e = some i) (hz : i.zero = some z)
    (hsize : i.size = size) (hby : i.bytes = bytes) (hzs : z.cells.size = size) (hsz : 0 < size)
    (v : Value) (n : Nat) (xs : List Value) (hs : a.eval s = v) (hown : W.ownsRow base e size v n xs)
    (cs : Array Value) (N : Nat) (hx : a.eval x = .slice (some ⟨N, 0, none⟩) 1 1) (hN : W.heap.size = N) (hl : cs.size = size) (h1 : ∀ u ∈ cs.toList, u.oneCell' = true)
    (hn : n ≤ 1000000000) (hbs : bytes ≤ 1000) (hbase : base ≤ W.heap.size)
    (h : ∀ v' w', w'.ownsRow base e size v' (n + 1) (xs ++ cs.toList) → Fr (fun k => v.ownBlock = some k) W w' → wpListIn F fn P ops Q rest (a.put o.dst v') w') :
    wpListIn F fn P ops Q (o :: rest) a (W.alloc (.cells cs e)) := by
  subst hN
  have hnb : (n + 1) * bytes ≤ 140737488355328 := Nat.le_trans (Nat.mul_le_mul (show n + 1 ≤ 1000000001 by omega) hbs) (by decide)
  refine wpListIn_append_own _ hgd s x t ho base e i z size bytes ht hi hz hsize hby hzs hsz v n xs hs (hown.alloc _) ⟨W.heap.size, 0, none⟩ 1 1 cs.toList hx (by simpa using hl) (cells_new W cs e) h1 (by unfold maxLen; omega) hnb (by simp; omega) ?_
  intro v' w' hown' hgrow _
  exact h v' w' hown' (((Fr.refl _ W).alloc _).grown hgrow fun k hk => .inr hk)
theorem step_app_fr {P : Program} {W : World} {ys : Nat → Option Bool} {K : Act → World → Prop} {E : Prop} {o : Oper} {a : Act} {Q : Exit → Act → World → Prop} (hgd : o.guard = none) (s x : Operand) (t : TypeId)
    (ho : o.op = .call { callee := .builtin .append, args := #[s, x], argTypes := #[t, t] })
    (base : Nat) (e : TypeId) (i : TypeInfo) (z : Value) (size bytes : Nat) (ht : P.underlying t = some (.slice e)) (hi : P.info? e = some i) (hz : i.zero = some z)
    (hsize : i.size = size) (hby : i.bytes = bytes) (hzs : z.cells.size = size) (hsz : 0 < size)
    (v : Value) (n : Nat) (xs : List Value) (hs : a.eval s = v) (hown : W.ownsRow base e size v n xs)
    (cs : Array Value) (N : Nat) (hx : a.eval x = .slice (some ⟨N, 0, none⟩) 1 1) (hN : W.heap.size = N) (hl : cs.size = size) (h1 : ∀ u ∈ cs.toList, u.oneCell' = true)
    (hn : n ≤ 1000000000) (hbs : bytes ≤ 1000) (hbase : base ≤ W.heap.size)
    (h : ∀ v' w', w'.ownsRow base e size v' (n + 1) (xs ++ cs.toList) → Fr (fun k => v.ownBlock = some k) W w' → K (a.put o.dst v') w') :
    if Region.wanted o ys = true then Oper.wp P o a (W.alloc (.cells cs e)) K Q else E := by
  subst hN
  have hnb : (n + 1) * bytes ≤ 140737488355328 := Nat.le_trans (Nat.mul_le_mul (show n + 1 ≤ 1000000001 by omega) hbs) (by decide)
  rw [if_pos (by simp [Region.wanted, hgd])]
  refine wp_append_own _ s x t ho base e i z size bytes ht hi hz hsize hby hzs hsz v n xs hs (hown.alloc _) ⟨W.heap.size, 0, none⟩ 1 1 cs.toList hx (by simpa using hl) (cells_new W cs e) h1 (by unfold maxLen; omega) hnb (by simp; omega) ?_
  intro v' w' hown' hgrow _
  exact h v' w' hown' (((Fr.refl _ W).alloc _).grown hgrow fun k hk => .inr hk)
/-- a slice in its box, one element more -/
theorem fr_own {W W' : World} {base : Nat} {e : TypeId} {size : Nat} {v : Value} {n : Nat} {xs : List Value} (hown : W.ownsRow base e size v n xs) (h : Fr (fun k => v.ownBlock = some k) W W') {B : Nat} (hB : B < base) (hBl : B < W.heap.size) : W'.heap[B]? = W.heap[B]? :=
  h.block B hBl fun e => by have := (hown.lt B e).1; omega
theorem own_cells {W : World} {base : Nat} {e : TypeId} {size : Nat} {v : Value} {n : Nat} {xs : List Value} (hown : W.ownsRow base e size v n xs) (k : Nat) (hk : v.ownBlock = some k) : ∃ o, W.heap[k]? = some o ∧ o.isCells = true := by
  rcases hown.2 with ⟨rfl, _⟩ | ⟨g, cap, cur, rfl, _, h3, _⟩
  · cases hk
  · cases hk; exact ⟨_, h3, rfl⟩
end Go.Proofs.YtkbgpajconhgjaaGreatDoor
end
section
/- append, with the word that the block of what comes is that of the slice, or a new one. -/
namespace Go.Proofs.YtkbgpajconhgjaaGreatDoor
open Go Go.RowKit

theorem run_append_tie {P : Program} (w : World) (base : Nat) (t ty e : TypeId) (i : TypeInfo) (z : Value) (size bytes : Nat) (ht : P.underlying t = some (.slice e)) (hi : P.info? e = some i) (hz : i.zero = some z)
    (hsize : i.size = size) (hby : i.bytes = bytes) (v : Value) (n : Nat) (xs : List Value) (hown : w.ownsRow base e size v n xs)
    (a : Addr) (m c : Nat) (news : List Value) (hl : news.length = m * size) (hnews : ∀ j u, news[j]? = some u → w.cell? (a.add j) = some u) (h1 : ∀ u ∈ news, u.oneCell' = true)
    (h63 : n + m ≤ maxLen) (hbytes : (n + m) * bytes ≤ 140737488355328) {v' : Value} {w' : World} (hr' : (Builtin.append_ #[t, t] ty #[v, .slice (some a) m c]).run P w = .ok v' w') :
    ∀ k, v'.ownBlock = some k → v.ownBlock = some k ∨ w.heap.size ≤ k := by
  subst hsize
  subst hby
  have hsmall : n + m ≤ 9223372036854775807 := by simp only [maxLen] at h63; omega
  rcases hown.2 with ⟨rfl, rfl⟩ | ⟨g, cap, cur, rfl, hbg, hg, hnc, hcm, hcs, htake⟩
  · have hx : xs = [] := List.eq_nil_of_length_eq_zero (by simpa using hown.1)
    subst hx
    by_cases hm : m = 0
    · subst hm
      have hr : (Builtin.append_ #[t, t] ty #[.slice none 0 0, .slice (some a) 0 c]).run P w = .ok (.slice none 0 0) w := by
        simp [Builtin.append_, run_underlying ht, sizeOf, typeInfo, hi, Builtin.lenOf, Builtin.firstCells, loadCells, loadCellsFrom]
      rw [hr] at hr'
      cases hr'
      intro k hk; cases hk
    · have hr := run_append_nil (P := P) w t ty e i z ht hi hz a m c news hl hnews (by omega) (by omega) (by have hb := hbytes; simp only [Nat.zero_add] at hb; omega)
      rw [hr] at hr'
      cases hr'
      intro k hk; cases hk; exact .inr (Nat.le_refl _)
  · by_cases hroom : n + m ≤ cap
    · have hfit : n * i.size + news.length ≤ cur.size := by rw [hl, hcs, ← Nat.add_mul]; exact Nat.mul_le_mul_right _ hroom
      have hr := run_append_room (P := P) w t ty e i ht hi g n cap cur hg a m c news hl hnews h1 hroom hfit
      rw [hr] at hr'
      cases hr'
      intro k hk; exact .inl hk
    · have holds : ∀ j u, xs[j]? = some u → w.cell? ((⟨g, 0, none⟩ : Addr).add j) = some u := hown.cells (g := g) rfl
      have hr := run_append_grow (P := P) w t ty e i z ht hi hz ⟨g, 0, none⟩ n cap xs hown.1 holds a m c news hl hnews (by omega) (by omega) (growslice_fits (by omega) hbytes)
      rw [hr] at hr'
      cases hr'
      intro k hk; cases hk; exact .inr (Nat.le_refl _)

section
variable {P : Program} {W : World} {ops : Array Oper} {rest : List Oper} {o : Oper} {a : Act} {Q : Exit → Act → World → Prop}
/-- any slice behind a slice of the call's own -/
theorem wpList_app_t (hgd : o.guard = none) (s x : Operand) (t : TypeId)
    (ho : o.op = .call { callee := .builtin .append, args := #[s, x], argTypes := #[t, t] })
    (base : Nat) (e : TypeId) (i : TypeInfo) (z : Value) (size bytes : Nat) (ht : P.underlying t = some (.slice e)) (hi : P.info? e = some i) (hz : i.zero = some z)
    (hsize : i.size = size) (hby : i.bytes = bytes) (hzs : z.cells.size = size) (hsz : 0 < size)
    (v : Value) (n : Nat) (xs : List Value) (hs : a.eval s = v) (hown : W.ownsRow base e size v n xs)
    (ad : Addr) (m c : Nat) (news : List Value) (hx : a.eval x = .slice (some ad) m c) (hl : news.length = m * size) (hnews : ∀ j u, news[j]? = some u → W.cell? (ad.add j) = some u) (h1 : ∀ u ∈ news, u.oneCell' = true)
    (hn : n + m ≤ 1000000000) (hbs : bytes ≤ 1000) (hbase : base ≤ W.heap.size)
    (h : ∀ v' w', w'.ownsRow base e size v' (n + m) (xs ++ news) → Fr (fun k => v.ownBlock = some k) W w' → (∀ k, v'.ownBlock = some k → v.ownBlock = some k ∨ W.heap.size ≤ k) → wpList P ops Q rest (a.put o.dst v') w') :
    wpList P ops Q (o :: rest) a W := by
  have hnb : (n + m) * bytes ≤ 140737488355328 := Nat.le_trans (Nat.mul_le_mul hn hbs) (by decide)
  have h63 : n + m ≤ maxLen := by unfold maxLen; omega
  refine wpList_plain hgd fun _ hK => ?_
  obtain ⟨v', w', hr, h2, h3, h4⟩ := run_append_own (P := P) W base t o.type e i z size bytes ht hi hz hsize hby hzs hsz v n xs hown ad m c news hl hnews h1 h63 hnb hbase
  have htie := run_append_tie W base t o.type e i z size bytes ht hi hz hsize hby v n xs hown ad m c news hl hnews h1 h63 hnb hr
  unfold Oper.wp execOp
  simp only [ho, resolve, invoke, builtin, Sem.run_bind, Sem.run_pure, Result.andThen_ok, List.map_toArray, List.map_cons, List.map_nil, hs, hx, hr]
  exact hK _ _ (h v' w' h2 ((Fr.refl _ W).grown h3 fun k hk => .inr hk) htie)
theorem wpListIn_app_t {F : Fence} {fn : Nat} (hgd : o.guard = none) (s x : Operand) (t : TypeId)
    (ho : o.op = .call { callee := .builtin .append, args := #[s, x], argTypes := #[t, t] })
    (base : Nat) (e : TypeId) (i : TypeInfo) (z : Value) (size bytes : Nat) (ht : P.underlying t = some (.slice e)) (hi : P.info? e = some i) (hz : i.zero = some z)
    (hsize : i.size = size) (hby : i.bytes = bytes) (hzs : z.cells.size = size) (hsz : 0 < size)
    (v : Value) (n : Nat) (xs : List Value) (hs : a.eval s = v) (hown : W.ownsRow base e size v n xs)
    (ad : Addr) (m c : Nat) (news : List Value) (hx : a.eval x = .slice (some ad) m c) (hl : news.length = m * size) (hnews : ∀ j u, news[j]? = some u → W.cell? (ad.add j) = some u) (h1 : ∀ u ∈ news, u.oneCell' = true)
    (hn : n + m ≤ 1000000000) (hbs : bytes ≤ 1000) (hbase : base ≤ W.heap.size)
    (h : ∀ v' w', w'.ownsRow base e size v' (n + m) (xs ++ news) → Fr (fun k => v.ownBlock = some k) W w' → (∀ k, v'.ownBlock = some k → v.ownBlock = some k ∨ W.heap.size ≤ k) → wpListIn F fn P ops Q rest (a.put o.dst v') w') :
    wpListIn F fn P ops Q (o :: rest) a W := by
  have hnb : (n + m) * bytes ≤ 140737488355328 := Nat.le_trans (Nat.mul_le_mul hn hbs) (by decide)
  have h63 : n + m ≤ maxLen := by unfold maxLen; omega
  refine wpListIn_plain hgd fun K hK' => ?_
  obtain ⟨v', w', hr, h2, h3, h4⟩ := run_append_own (P := P) W base t o.type e i z size bytes ht hi hz hsize hby hzs hsz v n xs hown ad m c news hl hnews h1 h63 hnb hbase
  have htie := run_append_tie W base t o.type e i z size bytes ht hi hz hsize hby v n xs hown ad m c news hl hnews h1 h63 hnb hr
  unfold Oper.wpIn
  refine ⟨?_, ?_⟩
  · simp [Oper.about, ho, resolve, Target.leads, Sem.run_pure]
  · rw [Oper.semAt_plain F _ _ (by rw [ho]; intro c hc'; cases hc')]
    simp [execOp, ho, resolve, invoke, builtin, hs, hx, hr, Result.andThen]
    exact hK' _ _ (h v' w' h2 ((Fr.refl _ W).grown h3 fun k hk => .inr hk) htie)
/-- one element more, that lies in the newest block -/
theorem wpList_one_t (hgd : o.guard = none) (s x : Operand) (t : TypeId)
    (ho : o.op = .call { callee := .builtin .append, args := #[s, x], argTypes := #[t, t] })
    (base : Nat) (e : TypeId) (i : TypeInfo) (z : Value) (size bytes : Nat) (ht : P.underlying t = some (.slice e)) (hi : P.info? e = some i) (hz : i.zero = some z)
    (hsize : i.size = size) (hby : i.bytes = bytes) (hzs : z.cells.size = size) (hsz : 0 < size)
    (v : Value) (n : Nat) (xs : List Value) (hs : a.eval s = v) (hown : W.ownsRow base e size v n xs)
    (cs : Array Value) (N : Nat) (hx : a.eval x = .slice (some ⟨N, 0, none⟩) 1 1) (hN : W.heap.size = N) (hl : cs.size = size) (h1 : ∀ u ∈ cs.toList, u.oneCell' = true)
    (hn : n ≤ 900000000) (hbs : bytes ≤ 1000) (hbase : base ≤ W.heap.size)
    (h : ∀ v' w', w'.ownsRow base e size v' (n + 1) (xs ++ cs.toList) → Fr (fun k => v.ownBlock = some k) W w' → (∀ k, v'.ownBlock = some k → v.ownBlock = some k ∨ W.heap.size ≤ k) → wpList P ops Q rest (a.put o.dst v') w') :
    wpList P ops Q (o :: rest) a (W.alloc (.cells cs e)) := by
  subst hN
  refine wpList_app_t hgd s x t ho base e i z size bytes ht hi hz hsize hby hzs hsz v n xs hs (hown.alloc _) ⟨W.heap.size, 0, none⟩ 1 1 cs.toList hx (by simpa using hl) (cells_new W cs e) h1 (by omega) hbs (by simp; omega) fun v' w' h2 h3 h4 => ?_
  exact h v' w' h2 (((Fr.refl _ W).alloc _).trans3 h3 fun k _ e => e) fun k hk => (h4 k hk).imp id fun e => by simp at e; omega
theorem wpListIn_one_t {F : Fence} {fn : Nat} (hgd : o.guard = none) (s x : Operand) (t : TypeId)
    (ho : o.op = .call { callee := .builtin .append, args := #[s, x], argTypes := #[t, t] })
    (base : Nat) (e : TypeId) (i : TypeInfo) (z : Value) (size bytes : Nat) (ht : P.underlying t = some (.slice e)) (hi : P.info? e = some i) (hz : i.zero = some z)
    (hsize : i.size = size) (hby : i.bytes = bytes) (hzs : z.cells.size = size) (hsz : 0 < size)
    (v : Value) (n : Nat) (xs : List Value) (hs : a.eval s = v) (hown : W.ownsRow base e size v n xs)
    (cs : Array Value) (N : Nat) (hx : a.eval x = .slice (some ⟨N, 0, none⟩) 1 1) (hN : W.heap.size = N) (hl : cs.size = size) (h1 : ∀ u ∈ cs.toList, u.oneCell' = true)
    (hn : n ≤ 900000000) (hbs : bytes ≤ 1000) (hbase : base ≤ W.heap.size)
    (h : ∀ v' w', w'.ownsRow base e size v' (n + 1) (xs ++ cs.toList) → Fr (fun k => v.ownBlock = some k) W w' → (∀ k, v'.ownBlock = some k → v.ownBlock = some k ∨ W.heap.size ≤ k) → wpListIn F fn P ops Q rest (a.put o.dst v') w') :
    wpListIn F fn P ops Q (o :: rest) a (W.alloc (.cells cs e)) := by
  subst hN
  refine wpListIn_app_t hgd s x t ho base e i z size bytes ht hi hz hsize hby hzs hsz v n xs hs (hown.alloc _) ⟨W.heap.size, 0, none⟩ 1 1 cs.toList hx (by simpa using hl) (cells_new W cs e) h1 (by omega) hbs (by simp; omega) fun v' w' h2 h3 h4 => ?_
  exact h v' w' h2 (((Fr.refl _ W).alloc _).trans3 h3 fun k _ e => e) fun k hk => (h4 k hk).imp id fun e => by simp at e; omega
end
end Go.Proofs.YtkbgpajconhgjaaGreatDoor
end
section
/- append onto a slice of the call's own, nil or not, from whatever source (a text, a slice, nil), with the word of whose block it is. -/
namespace Go.Proofs.YtkbgpajconhgjaaGreatDoor
open Go Go.RowKit

theorem run_app_any {P : Program} (w : World) (base : Nat) (t tx ty e : TypeId) (i : TypeInfo) (z : Value) (size bytes : Nat) (ht : P.underlying t = some (.slice e)) (hi : P.info? e = some i) (hz : i.zero = some z)
    (hsize : i.size = size) (hby : i.bytes = bytes) (hzs : z.cells.size = size) (v : Value) (n : Nat) (xs : List Value)
    (hown : w.ownsRow base e size v n xs) (x : Value) (m : Nat) (news : List Value) (hs : Src P size tx x m news w)
    (h63 : n + m ≤ maxLen) (hbytes : (n + m) * bytes ≤ 140737488355328) (hbase : base ≤ w.heap.size) :
    ∃ v' w', (Builtin.append_ #[t, tx] ty #[v, x]).run P w = .ok v' w' ∧ w'.ownsRow base e size v' (n + m) (xs ++ news) ∧ Fr (fun k => v.ownBlock = some k) w w' ∧ (∀ k, v'.ownBlock = some k → v.ownBlock = some k ∨ w.heap.size ≤ k) := by
  subst hsize
  subst hby
  have hsmall : n + m ≤ 9223372036854775807 := by simp only [maxLen] at h63; omega
  have hlen : (xs ++ news).length = (n + m) * i.size := by rw [List.length_append, hown.1, hs.newsLen, Nat.add_mul]
  have hown' := hown
  have fresh : ∀ (old : Nat) (olds : List Value), olds = xs → ∀ X, Fr X w (w.drew.alloc (.cells ((olds ++ news).toArray ++ Builtin.zeroCells z.cells (grownCap w (n + m) old e - (n + m))) e)) ∧
      (w.drew.alloc (.cells ((olds ++ news).toArray ++ Builtin.zeroCells z.cells (grownCap w (n + m) old e - (n + m))) e)).ownsRow base e i.size (.slice (some ⟨w.heap.size, 0, none⟩) (n + m) (grownCap w (n + m) old e)) (n + m) (xs ++ news) := by
    rintro old olds rfl X
    refine ⟨((Fr.refl _ w).drew).alloc _, ⟨hlen, .inr ⟨w.heap.size, _, _, rfl, hbase, heap_alloc_new w.drew _, grownCap_ge w (n + m) old e, grownCap_le_maxLen w (n + m) old e h63, ?_, ?_⟩⟩⟩
    · simp only [Array.size_append, List.size_toArray, size_zeroCells, hzs, hlen, ← Nat.add_mul]
      have := grownCap_ge w (n + m) old e
      congr 1
      omega
    · simp only [Array.toList_append]
      rw [← hlen]
      exact List.take_left
  rcases hown.2 with ⟨rfl, rfl⟩ | ⟨g, cap, cur, rfl, hbg, hg, hnc, hcm, hcs, htake⟩
  · have hx : xs = [] := List.eq_nil_of_length_eq_zero (by simpa using hown.1)
    subst hx
    by_cases hm : m = 0
    · subst hm
      have hn0 : news = [] := List.eq_nil_of_length_eq_zero (by simpa using hs.newsLen)
      subst hn0
      have hr : (Builtin.append_ #[t, tx] ty #[.slice none 0 0, x]).run P w = .ok (.slice none 0 0) w := by
        have hl0 : ∀ w' : World, (Builtin.lenOf (.slice none 0 0)).run P w' = .ok 0 w' := fun _ => rfl
        rcases hs.kind with ⟨e', hk⟩ | hk <;> simp [Builtin.append_, run_underlying ht, run_underlying hk, sizeOf, typeInfo, hi, hl0, hs.len, hs.cells]
      exact ⟨_, _, hr, by simpa using hown', Fr.refl _ _, (fun k hk => .inl hk)⟩
    · have hr := run_append_grow_src (P := P) w t tx ty e i z ht hi hz none 0 0 [] (run_firstCells_none w.drew i.size 0 0 0) x m news hs (by omega) (by omega) (growslice_fits (by omega) hbytes)
      obtain ⟨f1, f2⟩ := fresh 0 [] rfl (fun k => (Value.slice none 0 0).ownBlock = some k)
      exact ⟨_, _, hr, f2, f1, fun k hk => by cases hk; exact .inr (Nat.le_refl _)⟩
  · by_cases hroom : n + m ≤ cap
    · have hfit : n * i.size + news.length ≤ cur.size := by rw [hs.newsLen, hcs, ← Nat.add_mul]; exact Nat.mul_le_mul_right _ hroom
      have hr := run_room_src (P := P) w t tx ty e i ht hi g n cap cur hg x m news hs hroom hfit
      refine ⟨_, _, hr, ⟨hlen, .inr ⟨g, cap, _, rfl, hbg, setRow_heap w g cur _ e _ hg, hroom, hcm, ?_, ?_⟩⟩, ⟨rfl, rfl, rfl, by simp, fun k _ hk => setRow_other w g k _ (fun e => hk (by simp [Value.ownBlock, e]))⟩, fun k hk => .inl hk⟩
      · simp only [List.size_toArray, List.length_append, List.length_take, List.length_drop, Array.length_toList]
        omega
      · rw [htake, ← hlen]
        exact List.take_left
    · have holds : ∀ j u, xs[j]? = some u → w.cell? ((⟨g, 0, none⟩ : Addr).add j) = some u := hown'.cells (g := g) rfl
      have hold := run_firstCells_some (P := P) w.drew i.size n ⟨g, 0, none⟩ n cap xs hown'.1 (by simpa using holds)
      have hr := run_append_grow_src (P := P) w t tx ty e i z ht hi hz (some ⟨g, 0, none⟩) n cap xs hold x m news hs (by omega) (by omega) (growslice_fits (by omega) hbytes)
      obtain ⟨f1, f2⟩ := fresh cap xs rfl (fun k => (Value.slice (some ⟨g, 0, none⟩) n cap).ownBlock = some k)
      exact ⟨_, _, hr, f2, f1, fun k hk => by cases hk; exact .inr (Nat.le_refl _)⟩
section
variable {P : Program} {w : World} {ops : Array Oper} {rest : List Oper} {o : Oper} {a : Act} {Q : Exit → Act → World → Prop}
theorem wpList_app_u (hgd : o.guard = none) (s x : Operand) (t tx : TypeId)
    (ho : o.op = .call { callee := .builtin .append, args := #[s, x], argTypes := #[t, tx] })
    (base : Nat) (e : TypeId) (i : TypeInfo) (z : Value) (size bytes : Nat) (h1 : P.underlying t = some (.slice e)) (h2 : P.info? e = some i) (h3 : i.zero = some z) (h4 : i.size = size) (h5 : i.bytes = bytes) (h6 : z.cells.size = size)
    (v : Value) (n : Nat) (xs : List Value) (hs : a.eval s = v) (hown : w.ownsRow base e size v n xs) (u : Value) (m : Nat) (news : List Value) (hx : a.eval x = u) (hsrc : Src P size tx u m news w)
    (b1 : n + m ≤ 1000000000) (b2 : bytes ≤ 1000) (b3 : base ≤ w.heap.size)
    (h : ∀ v' w', w'.ownsRow base e size v' (n + m) (xs ++ news) → Fr (fun k => v.ownBlock = some k) w w' → (∀ k, v'.ownBlock = some k → v.ownBlock = some k ∨ w.heap.size ≤ k) → wpList P ops Q rest (a.put o.dst v') w') : wpList P ops Q (o :: rest) a w := by
  refine wpList_plain hgd fun _ hK => ?_
  obtain ⟨v', w', hr, r1, r2, r3⟩ := run_app_any (P := P) w base t tx o.type e i z size bytes h1 h2 h3 h4 h5 h6 v n xs hown u m news hsrc (by unfold maxLen; omega) (Nat.le_trans (Nat.mul_le_mul b1 b2) (by decide)) b3
  unfold Oper.wp execOp
  simp only [ho, resolve, invoke, builtin, Sem.run_bind, Sem.run_pure, Result.andThen_ok, List.map_toArray, List.map_cons, List.map_nil, hs, hx, hr]
  exact hK _ _ (h v' w' r1 r2 r3)
theorem wpListIn_app_u {F : Fence} {fn : Nat} (hgd : o.guard = none) (s x : Operand) (t tx : TypeId)
    (ho : o.op = .call { callee := .builtin .append, args := #[s, x], argTypes := #[t, tx] })
    (base : Nat) (e : TypeId) (i : TypeInfo) (z : Value) (size bytes : Nat) (h1 : P.underlying t = some (.slice e)) (h2 : P.info? e = some i) (h3 : i.zero = some z) (h4 : i.size = size) (h5 : i.bytes = bytes) (h6 : z.cells.size = size)
    (v : Value) (n : Nat) (xs : List Value) (hs : a.eval s = v) (hown : w.ownsRow base e size v n xs) (u : Value) (m : Nat) (news : List Value) (hx : a.eval x = u) (hsrc : Src P size tx u m news w)
    (b1 : n + m ≤ 1000000000) (b2 : bytes ≤ 1000) (b3 : base ≤ w.heap.size)
    (h : ∀ v' w', w'.ownsRow base e size v' (n + m) (xs ++ news) → Fr (fun k => v.ownBlock = some k) w w' → (∀ k, v'.ownBlock = some k → v.ownBlock = some k ∨ w.heap.size ≤ k) → wpListIn F fn P ops Q rest (a.put o.dst v') w') : wpListIn F fn P ops Q (o :: rest) a w := by
  refine wpListIn_plain hgd fun K hK' => ?_
  obtain ⟨v', w', hr, r1, r2, r3⟩ := run_app_any (P := P) w base t tx o.type e i z size bytes h1 h2 h3 h4 h5 h6 v n xs hown u m news hsrc (by unfold maxLen; omega) (Nat.le_trans (Nat.mul_le_mul b1 b2) (by decide)) b3
  unfold Oper.wpIn
  refine ⟨?_, ?_⟩
  · simp [Oper.about, ho, resolve, Target.leads, Sem.run_pure]
  · rw [Oper.semAt_plain F _ _ (by rw [ho]; intro c hc'; cases hc')]
    simp [execOp, ho, resolve, invoke, builtin, hs, hx, hr, Result.andThen]
    exact hK' _ _ (h v' w' r1 r2 r3)
end
end Go.Proofs.YtkbgpajconhgjaaGreatDoor
end
section
/- Rows of texts of the call's own; slices.Values at texts. -/
namespace Go.Proofs.YtkbgpajconhgjaaGreatDoor
open Go Go.RowKit Go.Lib
attribute [local go_sem] Oper.semAt_some

/-- a text in a cell, as it is told -/
def encT (x : List UInt8) : Value := .string (bs x)
def encL (x : List UInt8) : Array Value := #[.string (bs x)]
def OwnT (base : Nat) (W : World) (v : Value) (xs : List (List UInt8)) : Prop := W.ownsRow base 9 1 v xs.length (xs.map encT)
theorem Tryz.infoT : (Tryz.prog.info? 9).map (fun i => (i.zero, i.size, i.bytes)) = some (some (.string ByteArray.empty), 1, 16) := by kernel_rfl
theorem ownT_kept {base : Nat} {w W : World} {v : Value} {xs : List (List UInt8)} (h : OwnT base w v xs) (hs : ∀ g, v.ownBlock = some g → W.heap[g]? = w.heap[g]?) : OwnT base W v xs := row_same h hs
theorem ownT_nil (base : Nat) (w : World) : OwnT base w (.slice none 0 0) [] := World.ownsRow_nil _ _ _ _
theorem ownT_base {W : World} {base base' : Nat} {v : Value} {xs : List (List UInt8)} (h : OwnT base W v xs) (hb : base' ≤ base) : OwnT base' W v xs := by
  obtain ⟨h1, h2⟩ := h
  refine ⟨h1, ?_⟩
  rcases h2 with h2 | ⟨g, cap, cur, h3, h4, h5⟩
  · exact .inl h2
  · exact .inr ⟨g, cap, cur, h3, by omega, h5⟩
theorem ownT_snoc {base : Nat} {w : World} {v : Value} {xs : List (List UInt8)} {x : List UInt8} (h : w.ownsRow base 9 1 v (xs.length + 1) (xs.map encT ++ [encT x])) : OwnT base w v (xs ++ [x]) := by
  unfold OwnT; rw [List.length_append, List.map_append]; exact h
/-- texts as they are read -/
def ReadsT (w : World) (A : Option Addr) (xs : List (List UInt8)) : Prop := 0 < xs.length → ∃ g o, A = some ⟨g, o, none⟩ ∧ g < w.heap.size ∧ ∀ j (h : j < xs.length), w.cell? ⟨g, o + j, none⟩ = some (.string (bs xs[j]))
theorem reads_ownT {base : Nat} {w : World} {A : Option Addr} {n c : Nat} {xs : List (List UInt8)} (h : OwnT base w (.slice A n c) xs) : ReadsT w A xs := fun h0 => by
  have h' := h
  rcases h.2 with ⟨h1, h2⟩ | ⟨g, cap, cur, h1, h3, h4, h5, _, h6, h7⟩
  · omega
  · injection h1 with q1 q2 q3
    subst q1
    refine ⟨g, 0, rfl, blk_lt h4, fun j hj => ?_⟩
    have := h'.cells (g := g) rfl j (encT xs[j]) (by simp [hj])
    have hadd : (⟨g, 0, none⟩ : Addr).add j = ⟨g, 0 + j, none⟩ := by
      unfold Addr.add
      split
      · simp_all
      · rfl
    rw [hadd] at this
    exact this
theorem ReadsT.below {w W : World} {A : Option Addr} {xs : List (List UInt8)} (h : ReadsT w A xs) {n : Nat} (hb : Below n w W) (hn : w.heap.size ≤ n := by exact Nat.le_refl _) : ReadsT W A xs := fun h0 => by
  obtain ⟨g, o, rfl, hg, h1⟩ := h h0
  exact ⟨g, o, rfl, Nat.lt_of_lt_of_le hg hb.size, fun j hj => (World.cell?_of_block (w := w) (w' := W) (a := ⟨g, o + j, none⟩) (hb.block g (by omega))).trans (h1 j hj)⟩
/-- the blocks of a tale -/
def rowYT (B : Nat) (v : Value) : Nat → Prop := fun b => b = B ∨ v.ownBlock = some b
set_option maxRecDepth 100000 in
set_option maxHeartbeats 4000000 in
theorem values_seqT (base B : Nat) (v : Value) (xs : List (List UInt8)) (w : World) (hxs : xs.length ≤ 1000000) (hb : w.heap[B]? = some (.cells #[v] 26 (0, 0))) (hr : OwnT base w v xs) :
    SeqF Tryz.prog 34 #[.pointer (some ⟨B, 0, none⟩)] encL (rowYT B v) xs w := fun l J Jx X V hs hYl hX hJ hJx hY h0 => by
  have hbV := (hs B (.inl rfl)).trans hb
  have hrV : OwnT base V v xs := ownT_kept hr fun g hg => hs g (.inr hg)
  obtain ⟨A, c, rfl⟩ := row_slice hr
  have c0 : V.cell? ⟨B, 0, none⟩ = some (.slice A xs.length c) := (blk_cell hbV 0).trans rfl
  have HR := Lib.hid (reads_ownT hrV)
  have HO := Lib.hid hrV
  have HY := Lib.hid hY
  have HX := Lib.hid hX
  have h00 : Hid (∃ X1, GrowX X X1 V V ∧ Fr X V V ∧ J [] X1 V) := ⟨X, GrowX.refl fun k hk => (hX k hk).1, Fr.refl _ _, h0⟩
  clear hb hr hs hrV hbV hY hX h0 hJ hJx hYl
  refine (callsIn_wide (n := 20)).1 ?_
  refine callsIn_of_wp Tryz.func34 rfl trivial ?_ rfl
  simp only [Tryz.ntmps34, List.size_toArray, List.length_cons, List.length_nil, Nat.reduceAdd, Nat.reduceSub, Array.replicate_succ, Array.replicate_zero, List.push_toArray, List.append_toArray, List.nil_append, List.cons_append]
  gi_wp2
  gi_loopw [7] (fun c1 wr => ∃ k : Nat, c1 = .int .i64 k ∧ k ≤ xs.length ∧ Hid (∃ X1, GrowX X X1 V wr ∧ Fr X V wr ∧ J (xs.take k) X1 wr)) (fun c1 _ => xs.length - (Go.RowKit.intOf c1).toNat)
  case atStart => exact ⟨0, rfl, Nat.zero_le _, h00⟩
  case round =>
    obtain ⟨k, rfl, hk, HJ⟩ := hrel
    clear h00
    obtain ⟨X1, hg1, hf1, hj1⟩ := HJ.out
    by_cases hlt : k < xs.length
    · obtain ⟨g, o, rfl, hg, hcell⟩ := HR.out (by omega)
      obtain ⟨x, hx⟩ : ∃ x, xs[k] = x := ⟨_, rfl⟩
      have hgY : rowYT B (.slice (some ⟨g, o, none⟩) xs.length c) g := by
        rcases HO.out.2 with ⟨e, _⟩ | ⟨g2, cap, cur, e, _⟩
        · cases e
        · cases e; exact .inr rfl
      have e0 : wr.cell? ⟨g, o + k, none⟩ = some (.string (bs x)) := by
        rw [hf1.cell (p := ⟨g, o + k, none⟩) hg (fun e => (HX.out g e).2 hgY), hcell k hlt, hx]
      have hsp : xs.take k ++ x :: xs.drop (k + 1) = xs := by rw [← hx, ← List.drop_eq_getElem_cons hlt]; exact List.take_append_drop k xs
      have htk : xs.take (k + 1) = xs.take k ++ [x] := by rw [List.take_succ_eq_append_getElem hlt, hx]
      have hyy := HY.out (xs.take k) x (xs.drop (k + 1)) X1 wr hsp hg1 hj1 hf1
      obtain ⟨fn, tmps, assign, body, hy, hR⟩ := hyy
      dsimp only [encL] at hy
      have HT := Lib.hid (And.intro htk (And.intro hsp (And.intro hg1 hf1)))
      clear hx htk hsp hg hcell hg1 hf1 hj1 hgY
      gi_wp2_with fail
      refine (round_wide (.inl rfl) hR).mono ?_
      rintro e W3 ⟨X2, g2, f2, (⟨rfl, hJ3⟩ | ⟨rfl, hJx3⟩)⟩
      · obtain ⟨htk, hsp, hg1, hf1⟩ := HT.out
        have hN : Hid (∃ X1, GrowX X X1 V W3 ∧ Fr X V W3 ∧ J (xs.take (k + 1)) X1 W3) := ⟨X2, hg1.trans g2 hf1.size, hf1.trans3 f2 fun k hk e => (hg1 k e).2 hk, by rw [htk]; exact hJ3⟩
        clear htk hsp hg1 hf1 g2 f2 hJ3 hR hy
        gi_wp2_with fail
        go_roundw
        case rel => exact ⟨k + 1, by go_num, by omega, hN⟩
        case measure => simp [Go.RowKit.intOf]; omega
      · clear hR hy
        gi_wp2_with fail
        refine bodyPost_ret (results_none rfl _ _ _) rfl ?_
        obtain ⟨htk, hsp, hg1, hf1⟩ := HT.out
        exact ⟨⟨_, rfl⟩, X2, hg1.trans g2 hf1.size, hf1.trans3 f2 fun k hk e => (hg1 k e).2 hk, .inr ⟨_, xs.drop (k + 1), by simpa using hsp, hJx3⟩⟩
    · obtain rfl : k = xs.length := by omega
      rw [List.take_length] at hj1
      have HQ := Lib.hid (And.intro hg1 (And.intro hf1 hj1))
      clear hg1 hf1 hj1
      gi_wp2_with fail
      go_end0
      obtain ⟨hg1, hf1, hj1⟩ := HQ.out
      exact ⟨⟨_, rfl⟩, X1, hg1, hf1, .inl hj1⟩
/-- what tells xs: a tale, its box, the value in it -/
def TaleT (base : Nat) (w : World) (F : Value) (xs : List (List UInt8)) : Prop := ∃ B v, base ≤ B ∧ F = .func (.func 34) #[] #[.pointer (some ⟨B, 0, none⟩)] ∧ w.heap[B]? = some (.cells #[v] 26 (0, 0)) ∧ v.ownBlock ≠ some B ∧ OwnT base w v xs
def ValsT (v : Value) (w : World) (e : Ending) (w' : World) : Prop :=
  e = .returned (.func (.func 34) #[] #[.pointer (some ⟨w.heap.size, 0, none⟩)]) ∧ w'.heap[w.heap.size]? = some (.cells #[v] 26 (0, 0)) ∧ Below w.heap.size w w'
theorem values_callsT (A : Option Addr) (l c : Nat) (w : World) : Calls Tryz.prog 21 #[.slice A l c] w (ValsT (.slice A l c) w) := by
  go_enter Tryz.func21, Tryz.ntmps21
  go_wp2_with fail
  go_ret
  exact ⟨rfl, heap_alloc_new _ _, (Below.refl _ _).alloc (Nat.le_refl _) _⟩
theorem tale_ofT -- of 21
    {base : Nat} {xs : List (List UInt8)} {w w1 : World} {v : Value} {e : Ending} (hb : base ≤ w.heap.size) (h1 : OwnT base w v xs) (h3 : ValsT v w e w1) : ∃ F, e = .returned F ∧ TaleT base w1 F xs ∧ Below w.heap.size w w1 := by
  obtain ⟨rfl, h4, h5⟩ := h3
  refine ⟨_, rfl, ⟨w.heap.size, v, hb, rfl, h4, fun e => ?_, ownT_kept h1 fun g hg => h5.block g (h1.lt g hg).2⟩, h5⟩
  have := (h1.lt _ e).2; omega
theorem tellsT_tale {base : Nat} {w : World} {F : Value} {xs : List (List UInt8)} (h : TaleT base w F xs) (hl : xs.length ≤ 1000000) : ∃ Y, (∀ b, Y b → base ≤ b) ∧ TellsF Tryz.prog encL w F Y xs := by
  obtain ⟨B, v, h1, rfl, h3, h4, h5⟩ := h
  refine ⟨rowYT B v, fun b hb => ?_, _, _, rfl, values_seqT base B v xs w hl h3 h5, fun b hb => ?_, enters_of Tryz.func34 (by kernel_rfl) rfl⟩
  · rcases hb with rfl | hb
    · exact h1
    · exact (h5.lt b hb).1
  · rcases hb with rfl | hb
    · exact blk_lt h3
    · exact (h5.lt b hb).2
end Go.Proofs.YtkbgpajconhgjaaGreatDoor
end
section
/- Layer 14: write: a message's text through a builder. -/
namespace Go.Proofs.YtkbgpajconhgjaaGreatDoor
open Go Go.RowKit

/-- what is written of a parameter -/
def piece (last : Bool) (p : List UInt8) : List UInt8 := 32 :: ((if last && needC p then [58] else []) ++ p)
/-- what is written of the first parameters -/
def accL (ps : List (List UInt8)) : Nat → List UInt8
  | 0 => []
  | k + 1 => accL ps k ++ piece (decide (k + 1 = ps.length)) (ps.getD k [])
theorem accL_cons (p q : List UInt8) (r : List (List UInt8)) : ∀ k, accL (p :: q :: r) (k + 1) = 32 :: p ++ accL (q :: r) k
  | 0 => by simp [accL, piece]
  | k + 1 => by
    rw [accL, accL_cons p q r k, accL]
    simp
theorem accL_all : ∀ ps : List (List UInt8), accL ps ps.length = tailL ps
  | [] => rfl
  | [p] => by simp [accL, piece, tailL]
  | p :: q :: r => by
    have := accL_all (q :: r)
    rw [show (p :: q :: r).length = (q :: r).length + 1 from rfl, accL_cons, this]
    rfl
theorem piece_len (last : Bool) (p : List UInt8) : (piece last p).length ≤ p.length + 2 := by
  unfold piece; split <;> simp <;> omega
theorem accL_len {ps : List (List UInt8)} (hp : ∀ p ∈ ps, p.length ≤ 100000) : ∀ k, (accL ps k).length ≤ k * 100002
  | 0 => Nat.le_refl _
  | k + 1 => by
    have h1 := accL_len hp k
    have h2 := piece_len (decide (k + 1 = ps.length)) (ps.getD k [])
    have h3 : (ps.getD k []).length ≤ 100000 := by
      by_cases h : k < ps.length
      · rw [List.getD_eq_getElem?_getD, List.getElem?_eq_getElem h]; exact hp _ (List.getElem_mem h)
      · rw [List.getD_eq_getElem?_getD, List.getElem?_eq_none (by omega)]; simp
    rw [accL, List.length_append]
    omega
theorem strCells_bs (l : List UInt8) : Lib.strCells (bs l) = Lib.byteCells l := by rw [Lib.strCells_eq, bs_toList]
/-- a text is written behind what a builder holds -/
def WrP (B b : Nat) (l x : List UInt8) (w : World) (e : Ending) (w' : World) : Prop :=
  (∃ v, e = .returned v) ∧ Lib.IsBuilder 71 5 B b (Lib.byteCells (l ++ x)) w' ∧ Below B w w'
theorem wrM (B b : Nat) (l x : List UInt8) (w : World) (h : Lib.IsBuilder 71 5 B b (Lib.byteCells l) w) (hl : l.length + x.length ≤ 100000000) (hB : B ≤ w.heap.size) :
    Calls Tryz.prog 56 #[.pointer (some ⟨b, 0, none⟩), .string (bs x)] w (WrP B b l x w) := by
  refine (Any.Builder_WriteString { Tryz.lays155 with } Tryz.Builder_Extra_155 B b (Lib.byteCells l) (bs x) w h (by rw [Lib.byteCells_length]; simp; omega) hB).mono ?_
  rintro e w' ⟨rfl, h1, h2⟩
  refine ⟨⟨_, rfl⟩, ?_, h2⟩
  rw [strCells_bs, ← Lib.byteCells_append] at h1
  exact .inr h1
/-- what write does -/
theorem bs_head3 (pre : List UInt8) : (({ data := #[58] } : ByteArray) ++ bs pre) ++ ({ data := #[32] } : ByteArray) = bs (58 :: (pre ++ [32])) := ba_ext (by simp)
set_option maxRecDepth 100000 in
set_option maxHeartbeats 16000000 in
theorem writeM (pre name : List UInt8) (A : Option Addr) (c : Nat) (ps : List (List UInt8)) (w : World) (hR : ReadsT w A ps) (h1 : pre.length ≤ 1000000) (h2 : name.length ≤ 1000000) (h3 : ps.length ≤ 100) (h4 : ∀ p ∈ ps, p.length ≤ 100000) :
    Calls Tryz.prog 43 #[.agg #[.slice none 0 0, .string (bs pre), .string (bs name), .slice A ps.length c]] w fun e w' => e = .returned (.string (bs (writeL pre name ps))) ∧ Below w.heap.size w w' := by
  have HR := Lib.hid hR
  clear hR
  obtain ⟨N0, hN0⟩ : ∃ n, w.heap.size = n := ⟨_, rfl⟩
  obtain ⟨N1, hN1⟩ : ∃ n, N0 + 1 = n := ⟨_, rfl⟩
  obtain ⟨W1, hW1⟩ : ∃ W, (w.alloc (.cells #[.slice none 0 0, .string (bs pre), .string (bs name), .slice A ps.length c] 60)).alloc (.cells #[.pointer none, .slice none 0 0] 71) = W := ⟨_, rfl⟩
  have hsz1 : (w.alloc (.cells #[.slice none 0 0, .string (bs pre), .string (bs name), .slice A ps.length c] 60)).heap.size = N1 := by rw [World.size_alloc, hN0, hN1]
  have hfr := Lib.fresh_isBuilder 71 5 (w.alloc (.cells #[.slice none 0 0, .string (bs pre), .string (bs name), .slice A ps.length c] 60))
  have hW1b : Below w.heap.size w W1 := by rw [← hW1]; exact ((Below.refl _ w).alloc (Nat.le_refl _) _).alloc (by simp) _
  have hS1 : N1 ≤ W1.heap.size := by rw [← hW1, World.size_alloc, hsz1]; omega
  have hbx : W1.heap[N0]? = some (.cells #[.slice none 0 0, .string (bs pre), .string (bs name), .slice A ps.length c] 60 (0, 0)) := by
    rw [← hW1]; exact blk_alloc (hN0 ▸ heap_alloc_new w _) _
  rw [hsz1, hW1] at hfr
  have HW1 := Lib.hid hW1b
  have HS := Lib.hid hS1
  have HX3 := Lib.hid (show W1.cell? ⟨N0, 3, none⟩ = some (.slice A ps.length c) from blk_cell hbx 3)
  have HX2 := Lib.hid (show W1.cell? ⟨N0, 2, none⟩ = some (.string (bs name)) from blk_cell hbx 2)
  have HF := Lib.hid hfr
  have HE1 := Lib.hid hW1
  have HN1 := Lib.hid hN1
  clear hW1b hS1 hbx hfr hsz1 hW1
  have HN := Lib.hid (fun (l : List UInt8) (h : l.length ≤ 1000000) W => needM l W h)
  cases pre with
  | nil =>
    have e0 : bs ([] : List UInt8) = ({ data := #[] } : ByteArray) := rfl
    rw [e0] at HE1 ⊢
    clear e0
    have HW := Lib.hid (wrM N1 N1 [] name W1 HF.out (by simp; omega) HS.out)
    obtain ⟨H0, hH0⟩ : ∃ h : List UInt8, [] = h := ⟨_, rfl⟩
    have hH1 : H0.length ≤ 1000010 := by rw [← hH0]; simp
    have HH0 := Lib.hid hH0
    clear hN1 hH0
    go_enter Tryz.func43, Tryz.ntmps43
    go_wp2_with fail
    rw [HN1.out, HE1.out]
    have hN1 := HN1.out
    refine HW.out.mono ?_
    rintro e w1 ⟨⟨v1, rfl⟩, hb1, hB1⟩
    have hx3 : w1.cell? ⟨N0, 3, none⟩ = some (.slice A ps.length c) := (hB1.cell (p := ⟨N0, 3, none⟩) (by show N0 < N1; omega)).trans HX3.out
    rw [List.nil_append, ← List.nil_append name, HH0.out] at hb1
    have Hb0 := Lib.hid hb1
    have HB0 := Lib.hid hB1
    clear hb1 hB1
    go_wp2_with fail
    have hW0 := Hb0.out
    have hS0 := HB0.out
    go_loopw [30] (fun i wr => ∃ k : Nat, k ≤ ps.length ∧ i = .int .i64 k ∧ Lib.IsBuilder 71 5 N1 N1 (Lib.byteCells (H0 ++ name ++ accL ps k)) wr ∧ Below N1 W1 wr) (fun i _ => ps.length - (RowKit.intOf i).toNat)
    case atStart => exact ⟨0, Nat.zero_le _, rfl, by rw [show accL ps 0 = [] from rfl, List.append_nil]; exact hW0, hS0⟩
    case round =>
      obtain ⟨k, hk, rfl, hb, hB⟩ := hrel
      clear hW0 hS0
      have Hb := Lib.hid hb
      have HB := Lib.hid hB
      clear hb hB
      have hacc := accL_len h4 k
      have hN1' : N1 ≤ wr.heap.size := Nat.le_trans HS.out HB.out.size
      have HL := Lib.hid (And.intro hacc hN1')
      clear hacc hN1'
      by_cases hlt : k < ps.length
      · obtain ⟨g, o, hA, hg, hc⟩ := HR.out (by omega)
        have hck := hc k hlt
        have hcell : wr.cell? ⟨g, o + k, none⟩ = some (.string (bs ps[k])) := (HB.out.cell (p := ⟨g, o + k, none⟩) (by show g < N1; omega)).trans ((HW1.out.cell (p := ⟨g, o + k, none⟩) hg).trans hck)
        have hbox : wr.cell? ⟨N0, 3, none⟩ = some (.slice (some ⟨g, o, none⟩) ps.length c) := by
          rw [← hA]; exact (HB.out.cell (p := ⟨N0, 3, none⟩) (by show N0 < N1; omega)).trans HX3.out
        have HG := Lib.hid hg
        have hpk := h4 ps[k] (List.getElem_mem hlt)
        have hget : ps.getD k [] = ps[k] := by rw [List.getD_eq_getElem?_getD, List.getElem?_eq_getElem hlt]; rfl
        obtain ⟨p, hp⟩ : ∃ p, ps[k] = p := ⟨_, rfl⟩
        rw [hp] at hcell hpk hget
        have H1 := Lib.hid (wrM N1 N1 (H0 ++ name ++ accL ps k) [32] wr Hb.out (by have := HL.out.1; simp only [List.length_append, List.length_cons, List.length_nil]; omega) HL.out.2)
        have HG2 := Lib.hid (And.intro hget hpk)
        clear hc hck hget hp hpk hg
        subst hA
        have HNp := Lib.hid (fun W => needM p W (by have := HG2.out.2; omega))
        by_cases hlast : (k : Int) = ps.length - 1
        · have hlast2 : (((k : Int)) == (ps.length : Int) - 1) = true := by rw [beq_iff_eq]; exact hlast
          have HLA := Lib.hid hlast
          clear hlast
          cases hnc : needC p
          · go_wp2_with fail
            refine H1.out.mono ?_
            rintro e w1 ⟨⟨v1, rfl⟩, hb1, hB1⟩
            have Hb1 := Lib.hid hb1
            have HB1 := Lib.hid (HB.out.trans hB1)
            have hbox1 : w1.cell? ⟨N0, 3, none⟩ = some (.slice (some ⟨g, o, none⟩) ps.length c) := (hB1.cell (p := ⟨N0, 3, none⟩) (by show N0 < N1; omega)).trans hbox
            clear hb1 hB1
            go_wp2_with (first | (go_at_call 58; refine (HNp.out _).mono ?_; rintro e w' ⟨rfl, rfl⟩; rw [hnc]) | fail)
            have H4 := Lib.hid (wrM N1 N1 _ p _ Hb1.out (by have := HL.out.1; have := HG2.out.2; simp only [List.length_append, List.length_cons, List.length_nil]; omega) (Nat.le_trans HS.out HB1.out.size))
            refine H4.out.mono ?_
            rintro e w3 ⟨⟨v3, rfl⟩, hb3, hB3⟩
            have Hb3 := Lib.hid hb3
            have HB3 := Lib.hid (HB1.out.trans hB3)
            clear hb3 hB3 Hb1 HB1
            go_wp2_with fail
            have hpc : piece true p = 32 :: p := by unfold piece; rw [hnc]; rfl
            refine ⟨⟨k + 1, by omega, by push_cast; rfl, ?_, HB3.out⟩, by simp only [RowKit.intOf]; omega⟩
            have h5 := Hb3.out
            have hd : decide (k + 1 = ps.length) = true := by have := HLA.out; simp; omega
            rw [accL, HG2.out.1, hd, hpc]
            simpa only [List.append_assoc, List.cons_append, List.nil_append] using h5
          · go_wp2_with fail
            refine H1.out.mono ?_
            rintro e w1 ⟨⟨v1, rfl⟩, hb1, hB1⟩
            have Hb1 := Lib.hid hb1
            have HB1 := Lib.hid (HB.out.trans hB1)
            have hbox1 : w1.cell? ⟨N0, 3, none⟩ = some (.slice (some ⟨g, o, none⟩) ps.length c) := (hB1.cell (p := ⟨N0, 3, none⟩) (by show N0 < N1; omega)).trans hbox
            clear hb1 hB1
            go_wp2_with (first | (go_at_call 58; refine (HNp.out _).mono ?_; rintro e w' ⟨rfl, rfl⟩; rw [hnc]) | fail)
            have H3 := Lib.hid (wrM N1 N1 (H0 ++ name ++ accL ps k ++ [32]) [58] _ Hb1.out (by have := HL.out.1; simp only [List.length_append, List.length_cons, List.length_nil]; omega) (Nat.le_trans HS.out HB1.out.size))
            refine H3.out.mono ?_
            rintro e w2 ⟨⟨v2, rfl⟩, hb2, hB2⟩
            have Hb2 := Lib.hid hb2
            have HB2 := Lib.hid (HB1.out.trans hB2)
            clear hb2 hB2 Hb1 HB1 hbox1
            have Hb1 := Hb2
            have HB1 := HB2
            clear Hb2 HB2
            go_wp2_with fail
            have H4 := Lib.hid (wrM N1 N1 _ p _ Hb1.out (by have := HL.out.1; have := HG2.out.2; simp only [List.length_append, List.length_cons, List.length_nil]; omega) (Nat.le_trans HS.out HB1.out.size))
            refine H4.out.mono ?_
            rintro e w3 ⟨⟨v3, rfl⟩, hb3, hB3⟩
            have Hb3 := Lib.hid hb3
            have HB3 := Lib.hid (HB1.out.trans hB3)
            clear hb3 hB3 Hb1 HB1
            go_wp2_with fail
            have hpc : piece true p = 32 :: 58 :: p := by unfold piece; rw [hnc]; rfl
            refine ⟨⟨k + 1, by omega, by push_cast; rfl, ?_, HB3.out⟩, by simp only [RowKit.intOf]; omega⟩
            have h5 := Hb3.out
            have hd : decide (k + 1 = ps.length) = true := by have := HLA.out; simp; omega
            rw [accL, HG2.out.1, hd, hpc]
            simpa only [List.append_assoc, List.cons_append, List.nil_append] using h5
        · have hlast2 : (((k : Int)) == (ps.length : Int) - 1) = false := by rw [beq_eq_false_iff_ne]; exact hlast
          have HLA := Lib.hid hlast
          clear hlast
          go_wp2_with fail
          refine H1.out.mono ?_
          rintro e w1 ⟨⟨v1, rfl⟩, hb1, hB1⟩
          have Hb1 := Lib.hid hb1
          have HB1 := Lib.hid (HB.out.trans hB1)
          have hbox1 : w1.cell? ⟨N0, 3, none⟩ = some (.slice (some ⟨g, o, none⟩) ps.length c) := (hB1.cell (p := ⟨N0, 3, none⟩) (by show N0 < N1; omega)).trans hbox
          clear hb1 hB1
          go_wp2_with fail
          have H4 := Lib.hid (wrM N1 N1 _ p _ Hb1.out (by have := HL.out.1; have := HG2.out.2; simp only [List.length_append, List.length_cons, List.length_nil]; omega) (Nat.le_trans HS.out HB1.out.size))
          refine H4.out.mono ?_
          rintro e w3 ⟨⟨v3, rfl⟩, hb3, hB3⟩
          have Hb3 := Lib.hid hb3
          have HB3 := Lib.hid (HB1.out.trans hB3)
          clear hb3 hB3 Hb1 HB1
          go_wp2_with fail
          have hpc : piece false p = 32 :: p := by unfold piece; rfl
          refine ⟨⟨k + 1, by omega, by push_cast; rfl, ?_, HB3.out⟩, by simp only [RowKit.intOf]; omega⟩
          have h5 := Hb3.out
          have hd : decide (k + 1 = ps.length) = false := by have := HLA.out; simp; omega
          rw [accL, HG2.out.1, hd, hpc]
          simpa only [List.append_assoc, List.cons_append, List.nil_append] using h5
      · obtain rfl : k = ps.length := by omega
        have HD := Lib.hid (Tryz.Builder_String_any N1 N1 (H0 ++ name ++ accL ps ps.length) wr Hb.out HL.out.2)
        go_wp2_with fail
        refine HD.out.mono ?_
        rintro e w2 ⟨rfl, hb2⟩
        go_wp2_with fail
        go_ret
        refine ⟨?_, ?_⟩
        · have e : H0 ++ name ++ accL ps ps.length = writeL [] name ps := by rw [accL_all, ← HH0.out]; rfl
          rw [← e, List.append_assoc]; rfl
        · exact HW1.out.trans ((HB.out.trans hb2).mono (by rw [hN0]; omega))
  | cons b0 r0 =>
    have hemp := str_ne (s := bs (b0 :: r0)) (by simp)
    have hg1 : ¬ 9223372036854775807 < 1 + (r0.length + 1) := by simp only [List.length_cons] at h1; omega
    have hg2 : ¬ 9223372036854775807 < 1 + (r0.length + 1) + 1 := by simp only [List.length_cons] at h1; omega
    have HW := Lib.hid (fun (l x : List UInt8) W h h2 h3 => wrM N1 N1 l x W h h2 h3)
    clear hN1
    go_enter Tryz.func43, Tryz.ntmps43
    go_wp2_with fail
    rw [bs_head3, HN1.out, HE1.out]
    have hN1 := HN1.out
    refine (HW.out [] (58 :: ((b0 :: r0) ++ [32])) W1 HF.out (by simp only [List.length_append, List.length_cons, List.length_nil] at *; omega) HS.out).mono ?_
    rintro e w0 ⟨⟨v0, rfl⟩, hb0, hB0⟩
    obtain ⟨H0, hH0⟩ : ∃ h : List UInt8, 58 :: ((b0 :: r0) ++ [32]) = h := ⟨_, rfl⟩
    have hH1 : H0.length ≤ 1000010 := by rw [← hH0]; simp only [List.length_append, List.length_cons, List.length_nil] at *; omega
    rw [List.nil_append, hH0] at hb0
    have hx2 : w0.cell? ⟨N0, 2, none⟩ = some (.string (bs name)) := (hB0.cell (p := ⟨N0, 2, none⟩) (by show N0 < N1; omega)).trans HX2.out
    have Hb' := Lib.hid hb0
    have HB' := Lib.hid hB0
    have HH0 := Lib.hid hH0
    clear hb0 hB0 hH0 hN1
    go_wp2_with fail
    have hN1 := HN1.out
    refine (HW.out H0 name w0 Hb'.out (by omega) (Nat.le_trans HS.out HB'.out.size)).mono ?_
    rintro e w1 ⟨⟨v1, rfl⟩, hb1, hB1⟩
    have hx3 : w1.cell? ⟨N0, 3, none⟩ = some (.slice A ps.length c) := ((HB'.out.trans hB1).cell (p := ⟨N0, 3, none⟩) (by show N0 < N1; omega)).trans HX3.out
    have Hb0 := Lib.hid hb1
    have HB0 := Lib.hid (HB'.out.trans hB1)
    clear hb1 hB1
    go_wp2_with fail
    have hW0 := Hb0.out
    have hS0 := HB0.out
    go_loopw [30] (fun i wr => ∃ k : Nat, k ≤ ps.length ∧ i = .int .i64 k ∧ Lib.IsBuilder 71 5 N1 N1 (Lib.byteCells (H0 ++ name ++ accL ps k)) wr ∧ Below N1 W1 wr) (fun i _ => ps.length - (RowKit.intOf i).toNat)
    case atStart => exact ⟨0, Nat.zero_le _, rfl, by rw [show accL ps 0 = [] from rfl, List.append_nil]; exact hW0, hS0⟩
    case round =>
      obtain ⟨k, hk, rfl, hb, hB⟩ := hrel
      clear hW0 hS0
      have Hb := Lib.hid hb
      have HB := Lib.hid hB
      clear hb hB
      have hacc := accL_len h4 k
      have hN1' : N1 ≤ wr.heap.size := Nat.le_trans HS.out HB.out.size
      have HL := Lib.hid (And.intro hacc hN1')
      clear hacc hN1'
      by_cases hlt : k < ps.length
      · obtain ⟨g, o, hA, hg, hc⟩ := HR.out (by omega)
        have hck := hc k hlt
        have hcell : wr.cell? ⟨g, o + k, none⟩ = some (.string (bs ps[k])) := (HB.out.cell (p := ⟨g, o + k, none⟩) (by show g < N1; omega)).trans ((HW1.out.cell (p := ⟨g, o + k, none⟩) hg).trans hck)
        have hbox : wr.cell? ⟨N0, 3, none⟩ = some (.slice (some ⟨g, o, none⟩) ps.length c) := by
          rw [← hA]; exact (HB.out.cell (p := ⟨N0, 3, none⟩) (by show N0 < N1; omega)).trans HX3.out
        have HG := Lib.hid hg
        have hpk := h4 ps[k] (List.getElem_mem hlt)
        have hget : ps.getD k [] = ps[k] := by rw [List.getD_eq_getElem?_getD, List.getElem?_eq_getElem hlt]; rfl
        obtain ⟨p, hp⟩ : ∃ p, ps[k] = p := ⟨_, rfl⟩
        rw [hp] at hcell hpk hget
        have H1 := Lib.hid (wrM N1 N1 (H0 ++ name ++ accL ps k) [32] wr Hb.out (by have := HL.out.1; simp only [List.length_append, List.length_cons, List.length_nil]; omega) HL.out.2)
        have HG2 := Lib.hid (And.intro hget hpk)
        clear hc hck hget hp hpk hg
        subst hA
        have HNp := Lib.hid (fun W => needM p W (by have := HG2.out.2; omega))
        by_cases hlast : (k : Int) = ps.length - 1
        · have hlast2 : (((k : Int)) == (ps.length : Int) - 1) = true := by rw [beq_iff_eq]; exact hlast
          have HLA := Lib.hid hlast
          clear hlast
          cases hnc : needC p
          · go_wp2_with fail
            refine H1.out.mono ?_
            rintro e w1 ⟨⟨v1, rfl⟩, hb1, hB1⟩
            have Hb1 := Lib.hid hb1
            have HB1 := Lib.hid (HB.out.trans hB1)
            have hbox1 : w1.cell? ⟨N0, 3, none⟩ = some (.slice (some ⟨g, o, none⟩) ps.length c) := (hB1.cell (p := ⟨N0, 3, none⟩) (by show N0 < N1; omega)).trans hbox
            clear hb1 hB1
            go_wp2_with (first | (go_at_call 58; refine (HNp.out _).mono ?_; rintro e w' ⟨rfl, rfl⟩; rw [hnc]) | fail)
            have H4 := Lib.hid (wrM N1 N1 _ p _ Hb1.out (by have := HL.out.1; have := HG2.out.2; simp only [List.length_append, List.length_cons, List.length_nil]; omega) (Nat.le_trans HS.out HB1.out.size))
            refine H4.out.mono ?_
            rintro e w3 ⟨⟨v3, rfl⟩, hb3, hB3⟩
            have Hb3 := Lib.hid hb3
            have HB3 := Lib.hid (HB1.out.trans hB3)
            clear hb3 hB3 Hb1 HB1
            go_wp2_with fail
            have hpc : piece true p = 32 :: p := by unfold piece; rw [hnc]; rfl
            refine ⟨⟨k + 1, by omega, by push_cast; rfl, ?_, HB3.out⟩, by simp only [RowKit.intOf]; omega⟩
            have h5 := Hb3.out
            have hd : decide (k + 1 = ps.length) = true := by have := HLA.out; simp; omega
            rw [accL, HG2.out.1, hd, hpc]
            simpa only [List.append_assoc, List.cons_append, List.nil_append] using h5
          · go_wp2_with fail
            refine H1.out.mono ?_
            rintro e w1 ⟨⟨v1, rfl⟩, hb1, hB1⟩
            have Hb1 := Lib.hid hb1
            have HB1 := Lib.hid (HB.out.trans hB1)
            have hbox1 : w1.cell? ⟨N0, 3, none⟩ = some (.slice (some ⟨g, o, none⟩) ps.length c) := (hB1.cell (p := ⟨N0, 3, none⟩) (by show N0 < N1; omega)).trans hbox
            clear hb1 hB1
            go_wp2_with (first | (go_at_call 58; refine (HNp.out _).mono ?_; rintro e w' ⟨rfl, rfl⟩; rw [hnc]) | fail)
            have H3 := Lib.hid (wrM N1 N1 (H0 ++ name ++ accL ps k ++ [32]) [58] _ Hb1.out (by have := HL.out.1; simp only [List.length_append, List.length_cons, List.length_nil]; omega) (Nat.le_trans HS.out HB1.out.size))
            refine H3.out.mono ?_
            rintro e w2 ⟨⟨v2, rfl⟩, hb2, hB2⟩
            have Hb2 := Lib.hid hb2
            have HB2 := Lib.hid (HB1.out.trans hB2)
            clear hb2 hB2 Hb1 HB1 hbox1
            have Hb1 := Hb2
            have HB1 := HB2
            clear Hb2 HB2
            go_wp2_with fail
            have H4 := Lib.hid (wrM N1 N1 _ p _ Hb1.out (by have := HL.out.1; have := HG2.out.2; simp only [List.length_append, List.length_cons, List.length_nil]; omega) (Nat.le_trans HS.out HB1.out.size))
            refine H4.out.mono ?_
            rintro e w3 ⟨⟨v3, rfl⟩, hb3, hB3⟩
            have Hb3 := Lib.hid hb3
            have HB3 := Lib.hid (HB1.out.trans hB3)
            clear hb3 hB3 Hb1 HB1
            go_wp2_with fail
            have hpc : piece true p = 32 :: 58 :: p := by unfold piece; rw [hnc]; rfl
            refine ⟨⟨k + 1, by omega, by push_cast; rfl, ?_, HB3.out⟩, by simp only [RowKit.intOf]; omega⟩
            have h5 := Hb3.out
            have hd : decide (k + 1 = ps.length) = true := by have := HLA.out; simp; omega
            rw [accL, HG2.out.1, hd, hpc]
            simpa only [List.append_assoc, List.cons_append, List.nil_append] using h5
        · have hlast2 : (((k : Int)) == (ps.length : Int) - 1) = false := by rw [beq_eq_false_iff_ne]; exact hlast
          have HLA := Lib.hid hlast
          clear hlast
          go_wp2_with fail
          refine H1.out.mono ?_
          rintro e w1 ⟨⟨v1, rfl⟩, hb1, hB1⟩
          have Hb1 := Lib.hid hb1
          have HB1 := Lib.hid (HB.out.trans hB1)
          have hbox1 : w1.cell? ⟨N0, 3, none⟩ = some (.slice (some ⟨g, o, none⟩) ps.length c) := (hB1.cell (p := ⟨N0, 3, none⟩) (by show N0 < N1; omega)).trans hbox
          clear hb1 hB1
          go_wp2_with fail
          have H4 := Lib.hid (wrM N1 N1 _ p _ Hb1.out (by have := HL.out.1; have := HG2.out.2; simp only [List.length_append, List.length_cons, List.length_nil]; omega) (Nat.le_trans HS.out HB1.out.size))
          refine H4.out.mono ?_
          rintro e w3 ⟨⟨v3, rfl⟩, hb3, hB3⟩
          have Hb3 := Lib.hid hb3
          have HB3 := Lib.hid (HB1.out.trans hB3)
          clear hb3 hB3 Hb1 HB1
          go_wp2_with fail
          have hpc : piece false p = 32 :: p := by unfold piece; rfl
          refine ⟨⟨k + 1, by omega, by push_cast; rfl, ?_, HB3.out⟩, by simp only [RowKit.intOf]; omega⟩
          have h5 := Hb3.out
          have hd : decide (k + 1 = ps.length) = false := by have := HLA.out; simp; omega
          rw [accL, HG2.out.1, hd, hpc]
          simpa only [List.append_assoc, List.cons_append, List.nil_append] using h5
      · obtain rfl : k = ps.length := by omega
        have HD := Lib.hid (Tryz.Builder_String_any N1 N1 (H0 ++ name ++ accL ps ps.length) wr Hb.out HL.out.2)
        go_wp2_with fail
        refine HD.out.mono ?_
        rintro e w2 ⟨rfl, hb2⟩
        go_wp2_with fail
        go_ret
        refine ⟨?_, ?_⟩
        · have e : H0 ++ name ++ accL ps ps.length = writeL (b0 :: r0) name ps := by rw [accL_all, ← HH0.out]; rfl
          rw [← e, List.append_assoc]; rfl
        · exact HW1.out.trans ((HB.out.trans hb2).mono (by rw [hN0]; omega))
end Go.Proofs.YtkbgpajconhgjaaGreatDoor
end
section
/- Layer 14: Make: a line of a command and parameters. -/
namespace Go.Proofs.YtkbgpajconhgjaaGreatDoor
open Go Go.RowKit

theorem parsL_len : ∀ qs : List (List UInt8), (parsL qs).length = qs.length
  | [] => rfl
  | [q] => rfl
  | p :: q :: r => by have := parsL_len (q :: r); simp only [parsL, List.length_cons] at *; omega
theorem parsL_get : ∀ (qs : List (List UInt8)) (k : Nat) (h : k < qs.length), (parsL qs)[k]? = some (if k + 1 < qs.length then midL qs[k] else qs[k])
  | [q], 0, _ => rfl
  | p :: q :: r, 0, _ => by simp [parsL]
  | p :: q :: r, k + 1, h => by
    have := parsL_get (q :: r) k (by simpa using h)
    simp only [parsL, List.getElem?_cons_succ, this]
    simp
theorem midU_len (l : List UInt8) : (midU l).length ≤ l.length + 1 := by
  cases l with
  | nil => simp [midU]
  | cons b r =>
    by_cases h : b = 58
    · rw [show midU (b :: r) = 45 :: r from if_pos h]; simp
    · rw [show midU (b :: r) = b :: r from if_neg h]; simp
theorem midL_len (l : List UInt8) : (midL l).length ≤ l.length + 1 := by
  unfold midL dashL
  have := midU_len (l.map fun b => if b = 32 then 45 else b)
  simpa using this
/-- the parameters of a line -/
def lineP (ps : List (List UInt8)) : List (List UInt8) := parsL (ps.map cleanL)
theorem lineP_len (ps : List (List UInt8)) : (lineP ps).length = ps.length := by unfold lineP; rw [parsL_len]; simp
theorem lineP_take {ps : List (List UInt8)} {k : Nat} (h : k < ps.length) : (lineP ps).take (k + 1) = (lineP ps).take k ++ [if k + 1 < ps.length then midL (cleanL ps[k]) else cleanL ps[k]] := by
  have h2 := parsL_get (ps.map cleanL) k (by simpa using h)
  rw [List.take_add_one]
  unfold lineP
  rw [h2]
  simp
/-- the line that Make makes -/
def makeL (pre name : List UInt8) (ps : List (List UInt8)) : List UInt8 := (writeL (dashL (cleanL pre)) name (lineP ps)).take 510
theorem lineP_mem {ps : List (List UInt8)} {B : Nat} (hp : ∀ p ∈ ps, p.length ≤ B) : ∀ p ∈ lineP ps, p.length ≤ B + 1 := by
  intro p hm
  obtain ⟨k, hk⟩ := List.getElem?_of_mem hm
  have hlt : k < ps.length := by have := (List.getElem?_eq_some_iff.1 hk).1; rwa [lineP_len] at this
  have h2 := parsL_get (ps.map cleanL) k (by simpa using hlt)
  unfold lineP at hk
  rw [hk] at h2
  have h3 := hp ps[k] (List.getElem_mem hlt)
  have h4 := clean_len ps[k]
  have h5 := midL_len (cleanL ps[k])
  cases h2
  simp only [List.getElem_map, List.length_map]
  split <;> omega
set_option maxRecDepth 100000 in
set_option maxHeartbeats 16000000 in
theorem makeM (pre name : List UInt8) (A : Option Addr) (c : Nat) (ps : List (List UInt8)) (w : World) (hR : ReadsT w A ps) (hm : Mx w) (hn : cmdB (bs name) = true) (h1 : pre.length ≤ 1000000) (h2 : name.length ≤ 1000000) (h3 : ps.length ≤ 15) (h4 : ∀ p ∈ ps, p.length ≤ 90000) :
    Calls Tryz.prog 27 #[.string (bs pre), .string (bs name), .slice A ps.length c] w fun e w' => e = .returned (.string (bs (makeL pre name ps))) ∧ Below w.heap.size w w' := by
  have HR := Lib.hid hR
  have HM := Lib.hid hm
  have HC := Lib.hid (cmdM (bs name) w (by simpa using h2))
  rw [hn] at HC
  have HU := Lib.hid (unpM pre w h1 hm)
  obtain ⟨up, hup⟩ : ∃ u, dashL (cleanL pre) = u := ⟨_, rfl⟩
  have hupl : up.length ≤ 1000000 := by rw [← hup]; unfold dashL; rw [List.length_map]; exact Nat.le_trans (clean_len pre) h1
  rw [hup] at HU
  have HUP := Lib.hid (And.intro hup hupl)
  clear hR hm hn hup hupl
  obtain ⟨i0, hi0, hz0, hz1, hz2⟩ := info_parts Tryz.infoT
  have hnl : ¬ (15 : Int) < ps.length := by omega
  go_enter Tryz.func27, Tryz.ntmps27
  go_wp2_with fail
  refine HC.out.mono ?_
  rintro e w' ⟨rfl, rfl⟩
  go_wp2_with fail
  refine HU.out.mono ?_
  rintro e w1 ⟨rfl, hb1⟩
  have HB1 := Lib.hid hb1
  clear hb1
  go_wp2_with fail
  obtain ⟨N2, hN2⟩ : ∃ n, w1.heap.size = n := ⟨_, rfl⟩
  have hw1 : w'.heap.size ≤ N2 := by rw [← hN2]; exact HB1.out.size
  have HN2 := Lib.hid hN2
  have hbx := heap_alloc_new w1 (.cells #[.slice none 0 0, .string (bs up), .string (bs name), .slice none 0 0] 60)
  have hsz : (w1.alloc (.cells #[.slice none 0 0, .string (bs up), .string (bs name), .slice none 0 0] 60)).heap.size = N2 + 1 := by rw [World.size_alloc, hN2]
  have hbl : Below N2 w1 (w1.alloc (.cells #[.slice none 0 0, .string (bs up), .string (bs name), .slice none 0 0] 60)) := (Below.refl _ w1).alloc (by omega) _
  rw [hN2]
  rw [hN2] at hbx
  obtain ⟨W1, hW1⟩ : ∃ W, (w1.alloc (.cells #[.slice none 0 0, .string (bs up), .string (bs name), .slice none 0 0] 60)) = W := ⟨_, rfl⟩
  rw [hW1] at hbx hsz hbl ⊢
  have HX := Lib.hid (And.intro hbx (And.intro hsz hbl))
  clear hbx hsz hbl hW1 hN2 hw1
  go_loopw [25] (fun i wr => ∃ (k : Nat) (v : Value), k ≤ ps.length ∧ i = .int .i64 k ∧ wr.heap[N2]? = some (.cells #[.slice none 0 0, .string (bs up), .string (bs name), v] 60 (0, 0)) ∧ OwnT (N2 + 1) wr v ((lineP ps).take k) ∧ Below N2 w1 wr ∧ N2 + 1 ≤ wr.heap.size) (fun i _ => ps.length - (Go.RowKit.intOf i).toNat)
  case atStart => exact ⟨0, _, Nat.zero_le _, rfl, HX.out.1, ownT_nil _ _, HX.out.2.2, by rw [HX.out.2.1]; exact Nat.le_refl _⟩
  case round =>
    obtain ⟨k, v, hk, rfl, hbox, hown, hB, hS⟩ := hrel
    have hv : wr.cell? ⟨N2, 3, none⟩ = some v := blk_cell hbox 3
    have HO := Lib.hid (And.intro hbox (And.intro hown (And.intro hB hS)))
    clear hbox hown hB hS
    by_cases hlt : k < ps.length
    · obtain ⟨g, o, hA, hg, hc⟩ := HR.out (by omega)
      have hcell : wr.cell? ⟨g, o + k, none⟩ = some (.string (bs ps[k])) := ((HB1.out.trans (HO.out.2.2.1.mono (by rw [← HN2.out]; exact HB1.out.size))).cell (p := ⟨g, o + k, none⟩) hg).trans (hc k hlt)
      have hmx : Mx wr := mx_kept HM.out (HB1.out.trans (HO.out.2.2.1.mono (by rw [← HN2.out]; exact HB1.out.size))) (Nat.le_refl _)
      have hpk := h4 ps[k] (List.getElem_mem hlt)
      have htk := lineP_take hlt
      obtain ⟨p, hp⟩ : ∃ p, ps[k] = p := ⟨_, rfl⟩
      rw [hp] at hcell hpk htk
      have HT := Lib.hid htk
      have HMM := Lib.hid (midM p wr (by omega) hmx)
      have HCM := Lib.hid (cleanM p wr (by omega))
      have HPK := Lib.hid hpk
      clear hc hmx htk hp hpk hg
      subst hA
      by_cases hlast : (k : Int) < ps.length - 1
      · go_wp2_with fail
        refine HMM.out.mono ?_
        rintro e w2 ⟨rfl, hb2⟩
        have hbox2 := (Fr.of_below (X := fun _ => False) hb2).blk HO.out.1 (fun h => h)
        have hown2 : OwnT (N2 + 1) w2 v ((lineP ps).take k) := ownT_kept HO.out.2.1 fun g' hg' => hb2.block g' (HO.out.2.1.lt g' hg').2
        have hv2 : w2.cell? ⟨N2, 3, none⟩ = some v := blk_cell hbox2 3
        have hS2 : N2 + 1 ≤ w2.heap.size := Nat.le_trans HO.out.2.2.2 hb2.size
        have hB2 : Below N2 w1 w2 := HO.out.2.2.1.trans (hb2.mono (by have := HO.out.2.2.2; omega))
        obtain ⟨D, hD⟩ : ∃ D, (lineP ps).take k = D := ⟨_, rfl⟩
        have hDl : D.length ≤ 15 := by rw [← hD, List.length_take]; omega
        rw [hD] at hown2
        have HD := Lib.hid hD
        have H2 := Lib.hid (And.intro hbox2 (And.intro hown2 (And.intro hB2 hS2)))
        clear hbox2 hown2 hS2 hB2 hb2 hD
        go_wp2_with (at_builtin; refine wpList_app_fr rfl _ _ 26 rfl (N2 + 1) 9 i0 (.string ByteArray.empty) 1 16 Tryz.underlying26 hi0 hz0 hz1 hz2 rfl (by decide) v _ _ rfl H2.out.2.1 #[.string (bs (midL (cleanL p)))] w2.heap.size rfl rfl rfl (by intro u hu; simp at hu; subst hu; rfl) (by omega) (by decide) H2.out.2.2.2 ?_)
        intro v1 w3 hown3 hfr3
        have hbox3 := hfr3.blk H2.out.1 (fun e => by have := (H2.out.2.1.lt _ e).1; omega)
        have hv3 : w3.cell? ⟨N2, 3, none⟩ = some v := blk_cell hbox3 3
        have hf3 : w3.frozen? ⟨N2, 3, none⟩ = false := blk_free hbox3 3
        have H3 := Lib.hid (And.intro hbox3 (And.intro (ownT_snoc hown3) hfr3))
        obtain ⟨A3, c3, hv4⟩ := row_slice hown3
        subst hv4
        clear hbox3 hown3 hfr3 hv2
        go_wp2_with fail
        refine ⟨⟨k + 1, .slice A3 (D.length + 1) c3, by omega, by push_cast; rfl, blk_set H3.out.1 3 _, ?_, ?_, ?_⟩, by simp only [Go.RowKit.intOf]; omega⟩
        · rw [HT.out, if_pos (by omega), HD.out]
          exact ownT_kept H3.out.2.1 fun g' hg' => heap_setCell_other w3 _ g' _ fun e => by have := (H3.out.2.1.lt g' hg').1; simp at e; omega
        · refine Below.setCell (H2.out.2.2.1.trans (H3.out.2.2.below (by have := H2.out.2.2.2; omega) fun g' _ hg' => ?_)) (Nat.le_refl _) _
          have := (H2.out.2.1.lt g' hg').1; omega
        · have := H3.out.2.2.size
          have := H2.out.2.2.2
          simp; omega
      · go_wp2_with fail
        refine HCM.out.mono ?_
        rintro e w2 ⟨rfl, hb2⟩
        have hbox2 := (Fr.of_below (X := fun _ => False) hb2).blk HO.out.1 (fun h => h)
        have hown2 : OwnT (N2 + 1) w2 v ((lineP ps).take k) := ownT_kept HO.out.2.1 fun g' hg' => hb2.block g' (HO.out.2.1.lt g' hg').2
        have hv2 : w2.cell? ⟨N2, 3, none⟩ = some v := blk_cell hbox2 3
        have hS2 : N2 + 1 ≤ w2.heap.size := Nat.le_trans HO.out.2.2.2 hb2.size
        have hB2 : Below N2 w1 w2 := HO.out.2.2.1.trans (hb2.mono (by have := HO.out.2.2.2; omega))
        obtain ⟨D, hD⟩ : ∃ D, (lineP ps).take k = D := ⟨_, rfl⟩
        have hDl : D.length ≤ 15 := by rw [← hD, List.length_take]; omega
        rw [hD] at hown2
        have HD := Lib.hid hD
        have H2 := Lib.hid (And.intro hbox2 (And.intro hown2 (And.intro hB2 hS2)))
        clear hbox2 hown2 hS2 hB2 hb2 hD
        go_wp2_with (at_builtin; refine wpList_app_fr rfl _ _ 26 rfl (N2 + 1) 9 i0 (.string ByteArray.empty) 1 16 Tryz.underlying26 hi0 hz0 hz1 hz2 rfl (by decide) v _ _ rfl H2.out.2.1 #[.string (bs (cleanL p))] w2.heap.size rfl rfl rfl (by intro u hu; simp at hu; subst hu; rfl) (by omega) (by decide) H2.out.2.2.2 ?_)
        intro v1 w3 hown3 hfr3
        have hbox3 := hfr3.blk H2.out.1 (fun e => by have := (H2.out.2.1.lt _ e).1; omega)
        have hv3 : w3.cell? ⟨N2, 3, none⟩ = some v := blk_cell hbox3 3
        have hf3 : w3.frozen? ⟨N2, 3, none⟩ = false := blk_free hbox3 3
        have H3 := Lib.hid (And.intro hbox3 (And.intro (ownT_snoc hown3) hfr3))
        obtain ⟨A3, c3, hv4⟩ := row_slice hown3
        subst hv4
        clear hbox3 hown3 hfr3 hv2
        go_wp2_with fail
        refine ⟨⟨k + 1, .slice A3 (D.length + 1) c3, by omega, by push_cast; rfl, blk_set H3.out.1 3 _, ?_, ?_, ?_⟩, by simp only [Go.RowKit.intOf]; omega⟩
        · rw [HT.out, if_neg (by omega), HD.out]
          exact ownT_kept H3.out.2.1 fun g' hg' => heap_setCell_other w3 _ g' _ fun e => by have := (H3.out.2.1.lt g' hg').1; simp at e; omega
        · refine Below.setCell (H2.out.2.2.1.trans (H3.out.2.2.below (by have := H2.out.2.2.2; omega) fun g' _ hg' => ?_)) (Nat.le_refl _) _
          have := (H2.out.2.1.lt g' hg').1; omega
        · have := H3.out.2.2.size
          have := H2.out.2.2.2
          simp; omega
    · obtain rfl : k = ps.length := by omega
      obtain ⟨D, hD⟩ : ∃ D, lineP ps = D := ⟨_, rfl⟩
      have hDl : D.length = ps.length := by rw [← hD, lineP_len]
      have hown : OwnT (N2 + 1) wr v D := by have := HO.out.2.1; rwa [List.take_of_length_le (by rw [lineP_len]; exact Nat.le_refl _), hD] at this
      obtain ⟨A2, c2, hv2⟩ := row_slice hown
      subst hv2
      have HW := Lib.hid (writeM up name A2 c2 D wr (reads_ownT hown) HUP.out.2 h2 (by omega) (fun q hq => by have := lineP_mem h4 q (hD ▸ hq); omega))
      rw [hDl] at HW
      have hbox := HO.out.1
      have hc0 : wr.cell? ⟨N2, 0, none⟩ = some (.slice none 0 0) := blk_cell hbox 0
      have hc1 : wr.cell? ⟨N2, 1, none⟩ = some (.string (bs up)) := blk_cell hbox 1
      have hc2 : wr.cell? ⟨N2, 2, none⟩ = some (.string (bs name)) := blk_cell hbox 2
      have HD := Lib.hid hD
      clear hown hbox hD
      go_wp2_with fail
      refine HW.out.mono ?_
      rintro e w2 ⟨rfl, hb2⟩
      obtain ⟨L, hL⟩ : ∃ L, writeL up name D = L := ⟨_, rfl⟩
      rw [hL]
      have hend : makeL pre name ps = L.take 510 := by unfold makeL; rw [HUP.out.1, HD.out, hL]
      have HE := Lib.hid hend
      have HB2 := Lib.hid hb2
      clear hb2 hL hend
      go_wp2_with fail
      go_ret
      refine ⟨?_, ?_⟩
      · have e : (bs L).extract 0 (min ((L.length : Nat) : Int) 510).toNat = bs (L.take 510) := by
          have e2 : (min ((L.length : Nat) : Int) 510).toNat = min L.length 510 := by omega
          rw [e2]
          refine ba_ext ?_
          by_cases h : L.length ≤ 510
          · rw [Nat.min_eq_left h, List.take_of_length_le h]; simp
          · rw [Nat.min_eq_right (by omega)]; simp
        rw [HE.out, ← e]; rfl
      · exact HB1.out.trans ((HO.out.2.2.1.trans (HB2.out.mono (by have := HO.out.2.2.2; omega))).mono (by rw [← HN2.out]; exact HB1.out.size))
end Go.Proofs.YtkbgpajconhgjaaGreatDoor
end
