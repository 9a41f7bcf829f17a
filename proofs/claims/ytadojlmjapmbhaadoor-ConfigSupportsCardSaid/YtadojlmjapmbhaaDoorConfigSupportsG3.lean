/- Texts of this proof, one behind the other. -/
import Derived.OwnWalkIn
import Derived.Test.YtadojlmjapmbhaaDoorConfigSupportsG1
import Derived.Test.YtadojlmjapmbhaaDoorConfigSupportsG2
import Derived.Lib.Hide
import Derived.Test.YtadojlmjapmbhaaDoorChecked
import Derived.Sort.LoopGhostIn
import Derived.Stop.RegionWithIn
import Derived.LoopIn
import Derived.Deep.LoopGhost
section
/- One element more, told as what the call leaves as it lay: in a plain walk, in a fence, in a region whose order is drawn. -/
namespace Go.Proofs.YtadojlmjapmbhaaDoor
open Go Go.RowKit

theorem wpList_app_fr {P : Program} {W : World} {ops : Array Oper} {rest : List Oper} {o : Oper} {a : Act} {Q : Exit → Act → World → Prop} (hgd : o.guard = none) (s x : Operand) (t : TypeId)
    (ho : o.op = .call { callee := .builtin .append, args := #[s, x], argTypes := #[t, t] })
    (base : Nat) (e : TypeId) (i : TypeInfo) (z : Value) (size bytes : Nat) (ht : P.underlying t = some (.slice e)) (hi : P.info? e = some i) (hz : i.zero = some z)
    (hsize : i.size = size) (hby : i.bytes = bytes) (hzs : z.cells.size = size) (hsz : 0 < size)
    (v : Value) (n : Nat) (xs : List Value) (hs : a.eval s = v) (hown : W.ownsRow base e size v n xs)
    (cs : Array Value) (N : Nat) (hx : a.eval x = .slice (some ⟨N, 0, none⟩) 1 1) (hN : W.heap.size = N) (hl : cs.size = size) (h1 : ∀ u ∈ cs.toList, u.oneCell' = true)
    (hn : n ≤ 1000000000) (hbs : bytes ≤ 1000) (hbase : base ≤ W.heap.size)
    (h : ∀ v' w', w'.ownsRow base e size v' (n + 1) (xs ++ cs.toList) → Fr (fun k => v.ownBlock = some k) W w' → wpList P ops Q rest (a.put o.dst v') w') :
    wpList P ops Q (o :: rest) a (W.alloc (.cells cs e)) := by
  subst hN
  have hnb : (n + 1) * bytes ≤ 140737488355328 := Nat.le_trans (Nat.mul_le_mul (show n + 1 ≤ 1000000001 by omega) hbs) (by decide)
  refine wpList_append_own _ hgd s x t ho base e i z size bytes ht hi hz hsize hby hzs hsz v n xs hs (hown.alloc _) ⟨W.heap.size, 0, none⟩ 1 1 cs.toList hx (by simpa using hl) (cells_new W cs e) h1 (by unfold maxLen; omega) hnb (by simp; omega) ?_
  intro v' w' hown' hgrow _
  exact h v' w' hown' (((Fr.refl _ W).alloc _).grown hgrow fun k hk => .inr hk)
theorem wpListIn_app_fr {P : Program} {W : World} {F : Fence} {fn : Nat} {ops : Array Oper} {rest : List Oper} {o : Oper} {a : Act} {Q : Exit → Act → World → Prop} (hgd : o.guard = none) (s x : Operand) (t : TypeId)
    (ho : o.op = .call { callee := .builtin .append, args := #[s, x], argTypes := #[t, t] })
    (base : Nat) (e : TypeId) (i : TypeInfo) (z : Value) (size bytes : Nat) (ht : P.underlying t = some (.slice e)) (hi : P.info? e = some i) (hz : i.zero = some z)
    (hsize : i.size = size) (hby : i.bytes = bytes) (hzs : z.cells.size = size) (hsz : 0 < size)
    (v : Value) (n : Nat) (xs : List Value) (hs : a.eval s = v) (hown : W.ownsRow base e size v n xs)
    (cs : Array Value) (N : Nat) (hx : a.eval x = .slice (some ⟨N, 0, none⟩) 1 1) (hN : W.heap.size = N) (hl : cs.size = size) (h1 : ∀ u ∈ cs.toList, u.oneCell' = true)
    (hn : n ≤ 1000000000) (hbs : bytes ≤ 1000) (hbase : base ≤ W.heap.size)
    (h : ∀ v' w', w'.ownsRow base e size v' (n + 1) (xs ++ cs.toList) → Fr (fun k => v.ownBlock = some k) W w' → wpListIn F fn P ops Q rest (a.put o.dst v') w') :
    wpListIn F fn P ops Q (o :: rest) a (W.alloc (.cells cs e)) := by
  subst hN
  have hnb : (n + 1) * bytes ≤ 140737488355328 := Nat.le_trans (Nat.mul_le_mul (show n + 1 ≤ 1000000001 by omega) hbs) (by decide)
  refine wpListIn_append_own _ hgd s x t ho base e i z size bytes ht hi hz hsize hby hzs hsz v n xs hs (hown.alloc _) ⟨W.heap.size, 0, none⟩ 1 1 cs.toList hx (by simpa using hl) (cells_new W cs e) h1 (by unfold maxLen; omega) hnb (by simp; omega) ?_
  intro v' w' hown' hgrow _
  exact h v' w' hown' (((Fr.refl _ W).alloc _).grown hgrow fun k hk => .inr hk)
theorem step_app_fr {P : Program} {W : World} {ys : Nat → Option Bool} {K : Act → World → Prop} {E : Prop} {o : Oper} {a : Act} {Q : Exit → Act → World → Prop} (hgd : o.guard = none) (s x : Operand) (t : TypeId)
    (ho : o.op = .call { callee := .builtin .append, args := #[s, x], argTypes := #[t, t] })
    (base : Nat) (e : TypeId) (i : TypeInfo) (z : Value) (size bytes : Nat) (ht : P.underlying t = some (.slice e)) (hi : P.info? e = some i) (hz : i.zero = some z)
    (hsize : i.size = size) (hby : i.bytes = bytes) (hzs : z.cells.size = size) (hsz : 0 < size)
    (v : Value) (n : Nat) (xs : List Value) (hs : a.eval s = v) (hown : W.ownsRow base e size v n xs)
    (cs : Array Value) (N : Nat) (hx : a.eval x = .slice (some ⟨N, 0, none⟩) 1 1) (hN : W.heap.size = N) (hl : cs.size = size) (h1 : ∀ u ∈ cs.toList, u.oneCell' = true)
    (hn : n ≤ 1000000000) (hbs : bytes ≤ 1000) (hbase : base ≤ W.heap.size)
    (h : ∀ v' w', w'.ownsRow base e size v' (n + 1) (xs ++ cs.toList) → Fr (fun k => v.ownBlock = some k) W w' → K (a.put o.dst v') w') :
    if Region.wanted o ys = true then Oper.wp P o a (W.alloc (.cells cs e)) K Q else E := by
  subst hN
  have hnb : (n + 1) * bytes ≤ 140737488355328 := Nat.le_trans (Nat.mul_le_mul (show n + 1 ≤ 1000000001 by omega) hbs) (by decide)
  rw [if_pos (by simp [Region.wanted, hgd])]
  refine wp_append_own _ s x t ho base e i z size bytes ht hi hz hsize hby hzs hsz v n xs hs (hown.alloc _) ⟨W.heap.size, 0, none⟩ 1 1 cs.toList hx (by simpa using hl) (cells_new W cs e) h1 (by unfold maxLen; omega) hnb (by simp; omega) ?_
  intro v' w' hown' hgrow _
  exact h v' w' hown' (((Fr.refl _ W).alloc _).grown hgrow fun k hk => .inr hk)
/-- a slice in its box, one element more -/
theorem fr_own {W W' : World} {base : Nat} {e : TypeId} {size : Nat} {v : Value} {n : Nat} {xs : List Value} (hown : W.ownsRow base e size v n xs) (h : Fr (fun k => v.ownBlock = some k) W W') {B : Nat} (hB : B < base) (hBl : B < W.heap.size) : W'.heap[B]? = W.heap[B]? :=
  h.block B hBl fun e => by have := (hown.lt B e).1; omega
theorem own_cells {W : World} {base : Nat} {e : TypeId} {size : Nat} {v : Value} {n : Nat} {xs : List Value} (hown : W.ownsRow base e size v n xs) (k : Nat) (hk : v.ownBlock = some k) : ∃ o, W.heap[k]? = some o ∧ o.isCells = true := by
  rcases hown.2 with ⟨rfl, _⟩ | ⟨g, cap, cur, rfl, _, h3, _⟩
  · cases hk
  · cases hk; exact ⟨_, h3, rfl⟩
end Go.Proofs.YtadojlmjapmbhaaDoor
end
section
/- append, with the word that the block of what comes is that of the slice, or a new one. -/
namespace Go.Proofs.YtadojlmjapmbhaaDoor
open Go Go.RowKit

theorem run_append_tie {P : Program} (w : World) (base : Nat) (t ty e : TypeId) (i : TypeInfo) (z : Value) (size bytes : Nat) (ht : P.underlying t = some (.slice e)) (hi : P.info? e = some i) (hz : i.zero = some z)
    (hsize : i.size = size) (hby : i.bytes = bytes) (v : Value) (n : Nat) (xs : List Value) (hown : w.ownsRow base e size v n xs)
    (a : Addr) (m c : Nat) (news : List Value) (hl : news.length = m * size) (hnews : ∀ j u, news[j]? = some u → w.cell? (a.add j) = some u) (h1 : ∀ u ∈ news, u.oneCell' = true)
    (h63 : n + m ≤ maxLen) (hbytes : (n + m) * bytes ≤ 140737488355328) {v' : Value} {w' : World} (hr' : (Builtin.append_ #[t, t] ty #[v, .slice (some a) m c]).run P w = .ok v' w') :
    ∀ k, v'.ownBlock = some k → v.ownBlock = some k ∨ w.heap.size ≤ k := by
  subst hsize
  subst hby
  have hsmall : n + m ≤ 9223372036854775807 := by simp only [maxLen] at h63; omega
  rcases hown.2 with ⟨rfl, rfl⟩ | ⟨g, cap, cur, rfl, hbg, hg, hnc, hcm, hcs, htake⟩
  · have hx : xs = [] := List.eq_nil_of_length_eq_zero (by simpa using hown.1)
    subst hx
    by_cases hm : m = 0
    · subst hm
      have hr : (Builtin.append_ #[t, t] ty #[.slice none 0 0, .slice (some a) 0 c]).run P w = .ok (.slice none 0 0) w := by
        simp [Builtin.append_, run_underlying ht, sizeOf, typeInfo, hi, Builtin.lenOf, Builtin.firstCells, loadCells, loadCellsFrom]
      rw [hr] at hr'
      cases hr'
      intro k hk; cases hk
    · have hr := run_append_nil (P := P) w t ty e i z ht hi hz a m c news hl hnews (by omega) (by omega) (by have hb := hbytes; simp only [Nat.zero_add] at hb; omega)
      rw [hr] at hr'
      cases hr'
      intro k hk; cases hk; exact .inr (Nat.le_refl _)
  · by_cases hroom : n + m ≤ cap
    · have hfit : n * i.size + news.length ≤ cur.size := by rw [hl, hcs, ← Nat.add_mul]; exact Nat.mul_le_mul_right _ hroom
      have hr := run_append_room (P := P) w t ty e i ht hi g n cap cur hg a m c news hl hnews h1 hroom hfit
      rw [hr] at hr'
      cases hr'
      intro k hk; exact .inl hk
    · have holds : ∀ j u, xs[j]? = some u → w.cell? ((⟨g, 0, none⟩ : Addr).add j) = some u := hown.cells (g := g) rfl
      have hr := run_append_grow (P := P) w t ty e i z ht hi hz ⟨g, 0, none⟩ n cap xs hown.1 holds a m c news hl hnews (by omega) (by omega) (growslice_fits (by omega) hbytes)
      rw [hr] at hr'
      cases hr'
      intro k hk; cases hk; exact .inr (Nat.le_refl _)

section
variable {P : Program} {W : World} {ops : Array Oper} {rest : List Oper} {o : Oper} {a : Act} {Q : Exit → Act → World → Prop}
/-- any slice behind a slice of the call's own -/
theorem wpList_app_t (hgd : o.guard = none) (s x : Operand) (t : TypeId)
    (ho : o.op = .call { callee := .builtin .append, args := #[s, x], argTypes := #[t, t] })
    (base : Nat) (e : TypeId) (i : TypeInfo) (z : Value) (size bytes : Nat) (ht : P.underlying t = some (.slice e)) (hi : P.info? e = some i) (hz : i.zero = some z)
    (hsize : i.size = size) (hby : i.bytes = bytes) (hzs : z.cells.size = size) (hsz : 0 < size)
    (v : Value) (n : Nat) (xs : List Value) (hs : a.eval s = v) (hown : W.ownsRow base e size v n xs)
    (ad : Addr) (m c : Nat) (news : List Value) (hx : a.eval x = .slice (some ad) m c) (hl : news.length = m * size) (hnews : ∀ j u, news[j]? = some u → W.cell? (ad.add j) = some u) (h1 : ∀ u ∈ news, u.oneCell' = true)
    (hn : n + m ≤ 1000000000) (hbs : bytes ≤ 1000) (hbase : base ≤ W.heap.size)
    (h : ∀ v' w', w'.ownsRow base e size v' (n + m) (xs ++ news) → Fr (fun k => v.ownBlock = some k) W w' → (∀ k, v'.ownBlock = some k → v.ownBlock = some k ∨ W.heap.size ≤ k) → wpList P ops Q rest (a.put o.dst v') w') :
    wpList P ops Q (o :: rest) a W := by
  have hnb : (n + m) * bytes ≤ 140737488355328 := Nat.le_trans (Nat.mul_le_mul hn hbs) (by decide)
  have h63 : n + m ≤ maxLen := by unfold maxLen; omega
  refine wpList_plain hgd fun _ hK => ?_
  obtain ⟨v', w', hr, h2, h3, h4⟩ := run_append_own (P := P) W base t o.type e i z size bytes ht hi hz hsize hby hzs hsz v n xs hown ad m c news hl hnews h1 h63 hnb hbase
  have htie := run_append_tie W base t o.type e i z size bytes ht hi hz hsize hby v n xs hown ad m c news hl hnews h1 h63 hnb hr
  unfold Oper.wp execOp
  simp only [ho, resolve, invoke, builtin, Sem.run_bind, Sem.run_pure, Result.andThen_ok, List.map_toArray, List.map_cons, List.map_nil, hs, hx, hr]
  exact hK _ _ (h v' w' h2 ((Fr.refl _ W).grown h3 fun k hk => .inr hk) htie)
theorem wpListIn_app_t {F : Fence} {fn : Nat} (hgd : o.guard = none) (s x : Operand) (t : TypeId)
    (ho : o.op = .call { callee := .builtin .append, args := #[s, x], argTypes := #[t, t] })
    (base : Nat) (e : TypeId) (i : TypeInfo) (z : Value) (size bytes : Nat) (ht : P.underlying t = some (.slice e)) (hi : P.info? e = some i) (hz : i.zero = some z)
    (hsize : i.size = size) (hby : i.bytes = bytes) (hzs : z.cells.size = size) (hsz : 0 < size)
    (v : Value) (n : Nat) (xs : List Value) (hs : a.eval s = v) (hown : W.ownsRow base e size v n xs)
    (ad : Addr) (m c : Nat) (news : List Value) (hx : a.eval x = .slice (some ad) m c) (hl : news.length = m * size) (hnews : ∀ j u, news[j]? = some u → W.cell? (ad.add j) = some u) (h1 : ∀ u ∈ news, u.oneCell' = true)
    (hn : n + m ≤ 1000000000) (hbs : bytes ≤ 1000) (hbase : base ≤ W.heap.size)
    (h : ∀ v' w', w'.ownsRow base e size v' (n + m) (xs ++ news) → Fr (fun k => v.ownBlock = some k) W w' → (∀ k, v'.ownBlock = some k → v.ownBlock = some k ∨ W.heap.size ≤ k) → wpListIn F fn P ops Q rest (a.put o.dst v') w') :
    wpListIn F fn P ops Q (o :: rest) a W := by
  have hnb : (n + m) * bytes ≤ 140737488355328 := Nat.le_trans (Nat.mul_le_mul hn hbs) (by decide)
  have h63 : n + m ≤ maxLen := by unfold maxLen; omega
  refine wpListIn_plain hgd fun K hK' => ?_
  obtain ⟨v', w', hr, h2, h3, h4⟩ := run_append_own (P := P) W base t o.type e i z size bytes ht hi hz hsize hby hzs hsz v n xs hown ad m c news hl hnews h1 h63 hnb hbase
  have htie := run_append_tie W base t o.type e i z size bytes ht hi hz hsize hby v n xs hown ad m c news hl hnews h1 h63 hnb hr
  unfold Oper.wpIn
  refine ⟨?_, ?_⟩
  · simp [Oper.about, ho, resolve, Target.leads, Sem.run_pure]
  · rw [Oper.semAt_plain F _ _ (by rw [ho]; intro c hc'; cases hc')]
    simp [execOp, ho, resolve, invoke, builtin, hs, hx, hr, Result.andThen]
    exact hK' _ _ (h v' w' h2 ((Fr.refl _ W).grown h3 fun k hk => .inr hk) htie)
/-- one element more, that lies in the newest block -/
theorem wpList_one_t (hgd : o.guard = none) (s x : Operand) (t : TypeId)
    (ho : o.op = .call { callee := .builtin .append, args := #[s, x], argTypes := #[t, t] })
    (base : Nat) (e : TypeId) (i : TypeInfo) (z : Value) (size bytes : Nat) (ht : P.underlying t = some (.slice e)) (hi : P.info? e = some i) (hz : i.zero = some z)
    (hsize : i.size = size) (hby : i.bytes = bytes) (hzs : z.cells.size = size) (hsz : 0 < size)
    (v : Value) (n : Nat) (xs : List Value) (hs : a.eval s = v) (hown : W.ownsRow base e size v n xs)
    (cs : Array Value) (N : Nat) (hx : a.eval x = .slice (some ⟨N, 0, none⟩) 1 1) (hN : W.heap.size = N) (hl : cs.size = size) (h1 : ∀ u ∈ cs.toList, u.oneCell' = true)
    (hn : n ≤ 900000000) (hbs : bytes ≤ 1000) (hbase : base ≤ W.heap.size)
    (h : ∀ v' w', w'.ownsRow base e size v' (n + 1) (xs ++ cs.toList) → Fr (fun k => v.ownBlock = some k) W w' → (∀ k, v'.ownBlock = some k → v.ownBlock = some k ∨ W.heap.size ≤ k) → wpList P ops Q rest (a.put o.dst v') w') :
    wpList P ops Q (o :: rest) a (W.alloc (.cells cs e)) := by
  subst hN
  refine wpList_app_t hgd s x t ho base e i z size bytes ht hi hz hsize hby hzs hsz v n xs hs (hown.alloc _) ⟨W.heap.size, 0, none⟩ 1 1 cs.toList hx (by simpa using hl) (cells_new W cs e) h1 (by omega) hbs (by simp; omega) fun v' w' h2 h3 h4 => ?_
  exact h v' w' h2 (((Fr.refl _ W).alloc _).trans3 h3 fun k _ e => e) fun k hk => (h4 k hk).imp id fun e => by simp at e; omega
theorem wpListIn_one_t {F : Fence} {fn : Nat} (hgd : o.guard = none) (s x : Operand) (t : TypeId)
    (ho : o.op = .call { callee := .builtin .append, args := #[s, x], argTypes := #[t, t] })
    (base : Nat) (e : TypeId) (i : TypeInfo) (z : Value) (size bytes : Nat) (ht : P.underlying t = some (.slice e)) (hi : P.info? e = some i) (hz : i.zero = some z)
    (hsize : i.size = size) (hby : i.bytes = bytes) (hzs : z.cells.size = size) (hsz : 0 < size)
    (v : Value) (n : Nat) (xs : List Value) (hs : a.eval s = v) (hown : W.ownsRow base e size v n xs)
    (cs : Array Value) (N : Nat) (hx : a.eval x = .slice (some ⟨N, 0, none⟩) 1 1) (hN : W.heap.size = N) (hl : cs.size = size) (h1 : ∀ u ∈ cs.toList, u.oneCell' = true)
    (hn : n ≤ 900000000) (hbs : bytes ≤ 1000) (hbase : base ≤ W.heap.size)
    (h : ∀ v' w', w'.ownsRow base e size v' (n + 1) (xs ++ cs.toList) → Fr (fun k => v.ownBlock = some k) W w' → (∀ k, v'.ownBlock = some k → v.ownBlock = some k ∨ W.heap.size ≤ k) → wpListIn F fn P ops Q rest (a.put o.dst v') w') :
    wpListIn F fn P ops Q (o :: rest) a (W.alloc (.cells cs e)) := by
  subst hN
  refine wpListIn_app_t hgd s x t ho base e i z size bytes ht hi hz hsize hby hzs hsz v n xs hs (hown.alloc _) ⟨W.heap.size, 0, none⟩ 1 1 cs.toList hx (by simpa using hl) (cells_new W cs e) h1 (by omega) hbs (by simp; omega) fun v' w' h2 h3 h4 => ?_
  exact h v' w' h2 (((Fr.refl _ W).alloc _).trans3 h3 fun k _ e => e) fun k hk => (h4 k hk).imp id fun e => by simp at e; omega
end
end Go.Proofs.YtadojlmjapmbhaaDoor
end
section
/- append onto a slice of the call's own, nil or not, from whatever source (a text, a slice, nil), with the word of whose block it is. -/
namespace Go.Proofs.YtadojlmjapmbhaaDoor
open Go Go.RowKit

theorem run_app_any {P : Program} (w : World) (base : Nat) (t tx ty e : TypeId) (i : TypeInfo) (z : Value) (size bytes : Nat) (ht : P.underlying t = some (.slice e)) (hi : P.info? e = some i) (hz : i.zero = some z)
    (hsize : i.size = size) (hby : i.bytes = bytes) (hzs : z.cells.size = size) (v : Value) (n : Nat) (xs : List Value)
    (hown : w.ownsRow base e size v n xs) (x : Value) (m : Nat) (news : List Value) (hs : Src P size tx x m news w)
    (h63 : n + m ≤ maxLen) (hbytes : (n + m) * bytes ≤ 140737488355328) (hbase : base ≤ w.heap.size) :
    ∃ v' w', (Builtin.append_ #[t, tx] ty #[v, x]).run P w = .ok v' w' ∧ w'.ownsRow base e size v' (n + m) (xs ++ news) ∧ Fr (fun k => v.ownBlock = some k) w w' ∧ (∀ k, v'.ownBlock = some k → v.ownBlock = some k ∨ w.heap.size ≤ k) := by
  subst hsize
  subst hby
  have hsmall : n + m ≤ 9223372036854775807 := by simp only [maxLen] at h63; omega
  have hlen : (xs ++ news).length = (n + m) * i.size := by rw [List.length_append, hown.1, hs.newsLen, Nat.add_mul]
  have hown' := hown
  have fresh : ∀ (old : Nat) (olds : List Value), olds = xs → ∀ X, Fr X w (w.drew.alloc (.cells ((olds ++ news).toArray ++ Builtin.zeroCells z.cells (grownCap w (n + m) old e - (n + m))) e)) ∧
      (w.drew.alloc (.cells ((olds ++ news).toArray ++ Builtin.zeroCells z.cells (grownCap w (n + m) old e - (n + m))) e)).ownsRow base e i.size (.slice (some ⟨w.heap.size, 0, none⟩) (n + m) (grownCap w (n + m) old e)) (n + m) (xs ++ news) := by
    rintro old olds rfl X
    refine ⟨((Fr.refl _ w).drew).alloc _, ⟨hlen, .inr ⟨w.heap.size, _, _, rfl, hbase, heap_alloc_new w.drew _, grownCap_ge w (n + m) old e, grownCap_le_maxLen w (n + m) old e h63, ?_, ?_⟩⟩⟩
    · simp only [Array.size_append, List.size_toArray, size_zeroCells, hzs, hlen, ← Nat.add_mul]
      have := grownCap_ge w (n + m) old e
      congr 1
      omega
    · simp only [Array.toList_append]
      rw [← hlen]
      exact List.take_left
  rcases hown.2 with ⟨rfl, rfl⟩ | ⟨g, cap, cur, rfl, hbg, hg, hnc, hcm, hcs, htake⟩
  · have hx : xs = [] := List.eq_nil_of_length_eq_zero (by simpa using hown.1)
    subst hx
    by_cases hm : m = 0
    · subst hm
      have hn0 : news = [] := List.eq_nil_of_length_eq_zero (by simpa using hs.newsLen)
      subst hn0
      have hr : (Builtin.append_ #[t, tx] ty #[.slice none 0 0, x]).run P w = .ok (.slice none 0 0) w := by
        have hl0 : ∀ w' : World, (Builtin.lenOf (.slice none 0 0)).run P w' = .ok 0 w' := fun _ => rfl
        rcases hs.kind with ⟨e', hk⟩ | hk <;> simp [Builtin.append_, run_underlying ht, run_underlying hk, sizeOf, typeInfo, hi, hl0, hs.len, hs.cells]
      exact ⟨_, _, hr, by simpa using hown', Fr.refl _ _, (fun k hk => .inl hk)⟩
    · have hr := run_append_grow_src (P := P) w t tx ty e i z ht hi hz none 0 0 [] (run_firstCells_none w.drew i.size 0 0 0) x m news hs (by omega) (by omega) (growslice_fits (by omega) hbytes)
      obtain ⟨f1, f2⟩ := fresh 0 [] rfl (fun k => (Value.slice none 0 0).ownBlock = some k)
      exact ⟨_, _, hr, f2, f1, fun k hk => by cases hk; exact .inr (Nat.le_refl _)⟩
  · by_cases hroom : n + m ≤ cap
    · have hfit : n * i.size + news.length ≤ cur.size := by rw [hs.newsLen, hcs, ← Nat.add_mul]; exact Nat.mul_le_mul_right _ hroom
      have hr := run_room_src (P := P) w t tx ty e i ht hi g n cap cur hg x m news hs hroom hfit
      refine ⟨_, _, hr, ⟨hlen, .inr ⟨g, cap, _, rfl, hbg, setRow_heap w g cur _ e _ hg, hroom, hcm, ?_, ?_⟩⟩, ⟨rfl, rfl, rfl, by simp, fun k _ hk => setRow_other w g k _ (fun e => hk (by simp [Value.ownBlock, e]))⟩, fun k hk => .inl hk⟩
      · simp only [List.size_toArray, List.length_append, List.length_take, List.length_drop, Array.length_toList]
        omega
      · rw [htake, ← hlen]
        exact List.take_left
    · have holds : ∀ j u, xs[j]? = some u → w.cell? ((⟨g, 0, none⟩ : Addr).add j) = some u := hown'.cells (g := g) rfl
      have hold := run_firstCells_some (P := P) w.drew i.size n ⟨g, 0, none⟩ n cap xs hown'.1 (by simpa using holds)
      have hr := run_append_grow_src (P := P) w t tx ty e i z ht hi hz (some ⟨g, 0, none⟩) n cap xs hold x m news hs (by omega) (by omega) (growslice_fits (by omega) hbytes)
      obtain ⟨f1, f2⟩ := fresh cap xs rfl (fun k => (Value.slice (some ⟨g, 0, none⟩) n cap).ownBlock = some k)
      exact ⟨_, _, hr, f2, f1, fun k hk => by cases hk; exact .inr (Nat.le_refl _)⟩
section
variable {P : Program} {w : World} {ops : Array Oper} {rest : List Oper} {o : Oper} {a : Act} {Q : Exit → Act → World → Prop}
theorem wpList_app_u (hgd : o.guard = none) (s x : Operand) (t tx : TypeId)
    (ho : o.op = .call { callee := .builtin .append, args := #[s, x], argTypes := #[t, tx] })
    (base : Nat) (e : TypeId) (i : TypeInfo) (z : Value) (size bytes : Nat) (h1 : P.underlying t = some (.slice e)) (h2 : P.info? e = some i) (h3 : i.zero = some z) (h4 : i.size = size) (h5 : i.bytes = bytes) (h6 : z.cells.size = size)
    (v : Value) (n : Nat) (xs : List Value) (hs : a.eval s = v) (hown : w.ownsRow base e size v n xs) (u : Value) (m : Nat) (news : List Value) (hx : a.eval x = u) (hsrc : Src P size tx u m news w)
    (b1 : n + m ≤ 1000000000) (b2 : bytes ≤ 1000) (b3 : base ≤ w.heap.size)
    (h : ∀ v' w', w'.ownsRow base e size v' (n + m) (xs ++ news) → Fr (fun k => v.ownBlock = some k) w w' → (∀ k, v'.ownBlock = some k → v.ownBlock = some k ∨ w.heap.size ≤ k) → wpList P ops Q rest (a.put o.dst v') w') : wpList P ops Q (o :: rest) a w := by
  refine wpList_plain hgd fun _ hK => ?_
  obtain ⟨v', w', hr, r1, r2, r3⟩ := run_app_any (P := P) w base t tx o.type e i z size bytes h1 h2 h3 h4 h5 h6 v n xs hown u m news hsrc (by unfold maxLen; omega) (Nat.le_trans (Nat.mul_le_mul b1 b2) (by decide)) b3
  unfold Oper.wp execOp
  simp only [ho, resolve, invoke, builtin, Sem.run_bind, Sem.run_pure, Result.andThen_ok, List.map_toArray, List.map_cons, List.map_nil, hs, hx, hr]
  exact hK _ _ (h v' w' r1 r2 r3)
theorem wpListIn_app_u {F : Fence} {fn : Nat} (hgd : o.guard = none) (s x : Operand) (t tx : TypeId)
    (ho : o.op = .call { callee := .builtin .append, args := #[s, x], argTypes := #[t, tx] })
    (base : Nat) (e : TypeId) (i : TypeInfo) (z : Value) (size bytes : Nat) (h1 : P.underlying t = some (.slice e)) (h2 : P.info? e = some i) (h3 : i.zero = some z) (h4 : i.size = size) (h5 : i.bytes = bytes) (h6 : z.cells.size = size)
    (v : Value) (n : Nat) (xs : List Value) (hs : a.eval s = v) (hown : w.ownsRow base e size v n xs) (u : Value) (m : Nat) (news : List Value) (hx : a.eval x = u) (hsrc : Src P size tx u m news w)
    (b1 : n + m ≤ 1000000000) (b2 : bytes ≤ 1000) (b3 : base ≤ w.heap.size)
    (h : ∀ v' w', w'.ownsRow base e size v' (n + m) (xs ++ news) → Fr (fun k => v.ownBlock = some k) w w' → (∀ k, v'.ownBlock = some k → v.ownBlock = some k ∨ w.heap.size ≤ k) → wpListIn F fn P ops Q rest (a.put o.dst v') w') : wpListIn F fn P ops Q (o :: rest) a w := by
  refine wpListIn_plain hgd fun K hK' => ?_
  obtain ⟨v', w', hr, r1, r2, r3⟩ := run_app_any (P := P) w base t tx o.type e i z size bytes h1 h2 h3 h4 h5 h6 v n xs hown u m news hsrc (by unfold maxLen; omega) (Nat.le_trans (Nat.mul_le_mul b1 b2) (by decide)) b3
  unfold Oper.wpIn
  refine ⟨?_, ?_⟩
  · simp [Oper.about, ho, resolve, Target.leads, Sem.run_pure]
  · rw [Oper.semAt_plain F _ _ (by rw [ho]; intro c hc'; cases hc')]
    simp [execOp, ho, resolve, invoke, builtin, hs, hx, hr, Result.andThen]
    exact hK' _ _ (h v' w' r1 r2 r3)
end
end Go.Proofs.YtadojlmjapmbhaaDoor
end
section
/- Rows of texts of the call's own; slices.Values at texts. -/
namespace Go.Proofs.YtadojlmjapmbhaaDoor
set_option linter.unusedVariables false
set_option linter.unusedSimpArgs false
open Go Go.RowKit Go.Lib
attribute [local go_sem] Oper.semAt_some

/-- a text in a cell, as it is told -/
def encT (x : List UInt8) : Value := .string (bs x)
def encL (x : List UInt8) : Array Value := #[.string (bs x)]
def OwnT (base : Nat) (W : World) (v : Value) (xs : List (List UInt8)) : Prop := W.ownsRow base 9 1 v xs.length (xs.map encT)
theorem Tryd.infoT : (Tryd.prog.info? 9).map (fun i => (i.zero, i.size, i.bytes)) = some (some (.string ByteArray.empty), 1, 16) := by kernel_rfl
theorem ownT_kept {base : Nat} {w W : World} {v : Value} {xs : List (List UInt8)} (h : OwnT base w v xs) (hs : ∀ g, v.ownBlock = some g → W.heap[g]? = w.heap[g]?) : OwnT base W v xs := row_same h hs
theorem ownT_nil (base : Nat) (w : World) : OwnT base w (.slice none 0 0) [] := World.ownsRow_nil _ _ _ _
theorem ownT_base {W : World} {base base' : Nat} {v : Value} {xs : List (List UInt8)} (h : OwnT base W v xs) (hb : base' ≤ base) : OwnT base' W v xs := by
  obtain ⟨h1, h2⟩ := h
  refine ⟨h1, ?_⟩
  rcases h2 with h2 | ⟨g, cap, cur, h3, h4, h5⟩
  · exact .inl h2
  · exact .inr ⟨g, cap, cur, h3, by omega, h5⟩
theorem ownT_snoc {base : Nat} {w : World} {v : Value} {xs : List (List UInt8)} {x : List UInt8} (h : w.ownsRow base 9 1 v (xs.length + 1) (xs.map encT ++ [encT x])) : OwnT base w v (xs ++ [x]) := by
  unfold OwnT; rw [List.length_append, List.map_append]; exact h
/-- texts as they are read -/
def ReadsT (w : World) (A : Option Addr) (xs : List (List UInt8)) : Prop := 0 < xs.length → ∃ g o, A = some ⟨g, o, none⟩ ∧ g < w.heap.size ∧ ∀ j (h : j < xs.length), w.cell? ⟨g, o + j, none⟩ = some (.string (bs xs[j]))
theorem reads_ownT {base : Nat} {w : World} {A : Option Addr} {n c : Nat} {xs : List (List UInt8)} (h : OwnT base w (.slice A n c) xs) : ReadsT w A xs := fun h0 => by
  have h' := h
  rcases h.2 with ⟨h1, h2⟩ | ⟨g, cap, cur, h1, h3, h4, h5, _, h6, h7⟩
  · omega
  · injection h1 with q1 q2 q3
    subst q1
    refine ⟨g, 0, rfl, blk_lt h4, fun j hj => ?_⟩
    have := h'.cells (g := g) rfl j (encT xs[j]) (by simp [hj])
    have hadd : (⟨g, 0, none⟩ : Addr).add j = ⟨g, 0 + j, none⟩ := by
      unfold Addr.add
      split
      · simp_all
      · rfl
    rw [hadd] at this
    exact this
theorem ReadsT.below {w W : World} {A : Option Addr} {xs : List (List UInt8)} (h : ReadsT w A xs) {n : Nat} (hb : Below n w W) (hn : w.heap.size ≤ n := by exact Nat.le_refl _) : ReadsT W A xs := fun h0 => by
  obtain ⟨g, o, rfl, hg, h1⟩ := h h0
  exact ⟨g, o, rfl, Nat.lt_of_lt_of_le hg hb.size, fun j hj => (World.cell?_of_block (w := w) (w' := W) (a := ⟨g, o + j, none⟩) (hb.block g (by omega))).trans (h1 j hj)⟩
/-- the blocks of a tale -/
def rowYT (B : Nat) (v : Value) : Nat → Prop := fun b => b = B ∨ v.ownBlock = some b





end Go.Proofs.YtadojlmjapmbhaaDoor
end
section
/- Layer 12: All as a function that tells, in words of what is owned; Has. -/
namespace Go.Proofs.YtadojlmjapmbhaaDoor
set_option linter.unusedVariables false
set_option linter.unusedSimpArgs false
open Go Go.RowKit Go.Shelf Go.Lib
attribute [local go_sem] Oper.semAt_some

def knownY (b : Nat) : Prop := b = 0
theorem Known.lt {W : World} (h : Known W) : 0 < W.heap.size := cell_lt h.1
theorem Known.same {W W' : World} (h : Known W) (hs : W'.heap[(0 : Nat)]? = W.heap[(0 : Nat)]?) : Known W' := by
  unfold Known
  rw [World.cell?_of_block (w := W) (w' := W') (a := ⟨_, 0, none⟩) hs, World.cell?_of_block (w := W) (w' := W') (a := ⟨_, 1, none⟩) hs, World.cell?_of_block (w := W) (w' := W') (a := ⟨_, 2, none⟩) hs, World.cell?_of_block (w := W) (w' := W') (a := ⟨_, 3, none⟩) hs, World.cell?_of_block (w := W) (w' := W') (a := ⟨_, 4, none⟩) hs, World.cell?_of_block (w := W) (w' := W') (a := ⟨_, 5, none⟩) hs]
  exact h
set_option maxRecDepth 100000 in
set_option maxHeartbeats 8000000 in
theorem all_seqF (w : World) (hK : Known w) : SeqF Tryd.prog 22 #[] encCap knownY knownC w := fun l J Jx X V hs hYl hX hJ hJx hY h0 => by
  obtain ⟨q0, q1, q2, q3, q4, q5⟩ := hK.same (hs _ rfl)
  have HY := Lib.hid hY
  have HX := Lib.hid hX
  have HJ := Lib.hid hJ
  have h00 : Hid (∃ X1, GrowX X X1 V V ∧ Fr X V V ∧ J [] X1 V) := ⟨X, GrowX.refl fun k hk => (hX k hk).1, Fr.refl _ _, h0⟩
  clear hs hY hX h0 hJ hJx hYl
  refine (callsIn_wide (n := 20)).1 ?_
  refine callsIn_of_wp Tryd.func22 rfl trivial ?_ rfl
  simp only [Tryd.ntmps22, List.size_toArray, List.length_cons, List.length_nil, Nat.reduceAdd, Nat.reduceSub, Array.replicate_succ, Array.replicate_zero, List.push_toArray, List.append_toArray, List.nil_append, List.cons_append]
  gi_wp2_with fail
  gi_loopw [5] (fun i wr => ∃ k : Nat, i = .int .i64 k ∧ k ≤ 3 ∧ Hid (∃ X1, GrowX X X1 V wr ∧ Fr X V wr ∧ J (knownC.take k) X1 wr)) (fun i _ => 3 - (RowKit.intOf i).toNat)
  case atStart => exact ⟨0, rfl, by omega, h00⟩
  case round =>
    obtain ⟨k, rfl, hk, HJ2⟩ := hrel
    obtain ⟨X1, hg1, hf1, hj1⟩ := HJ2.out
    clear q0 q1 q2 q3 q4 q5 h00
    have hc0 := cap_at0; have hc1 := cap_at1; have hc2 := cap_at2
    have key : ∀ (e : CapE) (q : Nat), q < 3 → knownC.take q ++ e :: knownC.drop (q + 1) = knownC → k = q → ∃ wa, wr.alloc (Obj.cells #[.string e.1, .int .i64 e.2] 49) = wa ∧ Hid (knownC.take (q + 1) = knownC.take q ++ [e] ∧ GrowX X X1 V wa ∧ Fr X V wa) ∧ wa.heap[wr.heap.size]? = some (.cells #[.string e.1, .int .i64 e.2] 49 (0, 0)) ∧ YieldAt Fence.wide 0 Tryd.prog l (encCap e) wa fun e' V' => ∃ X2, GrowX X1 X2 wa V' ∧ Fr X1 wa V' ∧ ((e' = .returned (.bool true) ∧ J (knownC.take q ++ [e]) X2 V') ∨ (e' = .returned (.bool false) ∧ Jx (knownC.take q ++ [e]) X2 V')) := fun e q hq hsp hkq => by
      subst hkq
      obtain ⟨wa, hwa⟩ : ∃ wa, wr.alloc (Obj.cells #[.string e.1, .int .i64 e.2] 49) = wa := ⟨_, rfl⟩
      have fa : Fr (fun _ => False) wr wa := by rw [← hwa]; exact (Fr.refl _ wr).alloc _
      have hg2 : GrowX X X1 V wa := fun j hj => ⟨Nat.lt_of_lt_of_le (hg1 j hj).1 fa.size, (hg1 j hj).2⟩
      have hf2 : Fr X V wa := hf1.trans3 fa fun _ _ e => e.elim
      refine ⟨wa, hwa, ⟨?_, hg2, hf2⟩, by rw [← hwa]; exact heap_alloc_new _ _, HY.out (knownC.take k) e (knownC.drop (k + 1)) X1 wa hsp hg2 (HJ.out.fr hj1 (fun j hj => (hg1 j hj).1) fa fun _ e => e.elim) hf2⟩
      have h1 : (knownC.take k ++ e :: knownC.drop (k + 1)).take (k + 1) = knownC.take k ++ [e] := by
        have hl : (knownC.take k).length = k := by rw [List.length_take]; have : knownC.length = 3 := rfl; omega
        rw [List.take_append, hl, Nat.add_sub_cancel_left]
        rw [List.take_of_length_le (by omega)]
        rfl
      rw [hsp] at h1
      exact h1
    have HQ := Lib.hid (And.intro hg1 (And.intro hf1 hj1))
    clear hg1 hf1 hj1 HJ2
    rcases k with _ | _ | _ | _ | k
    · obtain ⟨wa, hwa, HT, ka, fn, tmps, assign, body, hy, hR⟩ := key (awayB, 1) 0 (by omega) rfl rfl
      dsimp only [encCap] at hy
      have c5 := blk_cell ka 0
      have c6 := blk_cell ka 1
      have HW := Lib.hid hwa
      clear key ka hwa
      gi_wp2_with (rw [HW.out])
      refine (round_wide (.inl rfl) hR).mono ?_
      rintro e W3 ⟨X2, g2, f2, (⟨rfl, hJ3⟩ | ⟨rfl, hJx3⟩)⟩
      · obtain ⟨htk, hg1, hf1⟩ := HT.out
        have hN : Hid (∃ X1, GrowX X X1 V W3 ∧ Fr X V W3 ∧ J (knownC.take 1) X1 W3) := ⟨X2, hg1.trans g2 hf1.size, hf1.trans3 f2 fun k hk e => (hg1 k e).2 hk, by rw [htk]; exact hJ3⟩
        clear htk hg1 hf1 g2 f2 hJ3 hR hy
        gi_wp2_with fail
        go_roundw
        case rel => exact ⟨1, by go_num, by omega, hN⟩
        case measure => simp [RowKit.intOf]
      · clear hR hy
        gi_wp2_with fail
        refine bodyPost_ret (results_none rfl _ _ _) rfl ?_
        obtain ⟨htk, hg1, hf1⟩ := HT.out
        exact ⟨⟨_, rfl⟩, X2, hg1.trans g2 hf1.size, hf1.trans3 f2 fun k hk e => (hg1 k e).2 hk, .inr ⟨_, knownC.drop 1, rfl, hJx3⟩⟩
    · obtain ⟨wa, hwa, HT, ka, fn, tmps, assign, body, hy, hR⟩ := key (echoB, 2) 1 (by omega) rfl rfl
      dsimp only [encCap] at hy
      have c5 := blk_cell ka 0
      have c6 := blk_cell ka 1
      have HW := Lib.hid hwa
      clear key ka hwa
      gi_wp2_with (rw [HW.out])
      refine (round_wide (.inl rfl) hR).mono ?_
      rintro e W3 ⟨X2, g2, f2, (⟨rfl, hJ3⟩ | ⟨rfl, hJx3⟩)⟩
      · obtain ⟨htk, hg1, hf1⟩ := HT.out
        have hN : Hid (∃ X1, GrowX X X1 V W3 ∧ Fr X V W3 ∧ J (knownC.take 2) X1 W3) := ⟨X2, hg1.trans g2 hf1.size, hf1.trans3 f2 fun k hk e => (hg1 k e).2 hk, by rw [htk]; exact hJ3⟩
        clear htk hg1 hf1 g2 f2 hJ3 hR hy
        gi_wp2_with fail
        go_roundw
        case rel => exact ⟨2, by go_num, by omega, hN⟩
        case measure => simp [RowKit.intOf]
      · clear hR hy
        gi_wp2_with fail
        refine bodyPost_ret (results_none rfl _ _ _) rfl ?_
        obtain ⟨htk, hg1, hf1⟩ := HT.out
        exact ⟨⟨_, rfl⟩, X2, hg1.trans g2 hf1.size, hf1.trans3 f2 fun k hk e => (hg1 k e).2 hk, .inr ⟨_, knownC.drop 2, rfl, hJx3⟩⟩
    · obtain ⟨wa, hwa, HT, ka, fn, tmps, assign, body, hy, hR⟩ := key (multiB, 4) 2 (by omega) rfl rfl
      dsimp only [encCap] at hy
      have c5 := blk_cell ka 0
      have c6 := blk_cell ka 1
      have HW := Lib.hid hwa
      clear key ka hwa
      gi_wp2_with (rw [HW.out])
      refine (round_wide (.inl rfl) hR).mono ?_
      rintro e W3 ⟨X2, g2, f2, (⟨rfl, hJ3⟩ | ⟨rfl, hJx3⟩)⟩
      · obtain ⟨htk, hg1, hf1⟩ := HT.out
        have hN : Hid (∃ X1, GrowX X X1 V W3 ∧ Fr X V W3 ∧ J (knownC.take 3) X1 W3) := ⟨X2, hg1.trans g2 hf1.size, hf1.trans3 f2 fun k hk e => (hg1 k e).2 hk, by rw [htk]; exact hJ3⟩
        clear htk hg1 hf1 g2 f2 hJ3 hR hy
        gi_wp2_with fail
        go_roundw
        case rel => exact ⟨3, by go_num, by omega, hN⟩
        case measure => simp [RowKit.intOf]
      · clear hR hy
        gi_wp2_with fail
        refine bodyPost_ret (results_none rfl _ _ _) rfl ?_
        obtain ⟨htk, hg1, hf1⟩ := HT.out
        exact ⟨⟨_, rfl⟩, X2, hg1.trans g2 hf1.size, hf1.trans3 f2 fun k hk e => (hg1 k e).2 hk, .inr ⟨_, knownC.drop 3, rfl, hJx3⟩⟩
    · clear key
      gi_wp2_with fail
      go_end0
      obtain ⟨hg1, hf1, hj1⟩ := HQ.out
      exact ⟨⟨_, rfl⟩, X1, hg1, hf1, .inl hj1⟩
    · omega

/-- is one of these asked for, and among those? -/
def hasV (h o : BitVec 64) : Bool := (knownC.any fun x => x.2 == IV o) && (h &&& o) != 0#64
theorem iv_zero (v : BitVec 64) : (IV v == 0) = (v == 0#64) := by
  have := IV_beq v 0#64
  rwa [show IV 0#64 = 0 by decide +kernel] at this
/-- the box of the answer -/
def HasI (S : Nat) (o : BitVec 64) (pre : List CapE) (X : Nat → Prop) (W : World) : Prop := (∀ y ∈ pre, y.2 ≠ IV o) ∧ W.heap[S]? = some (.cells #[.bool false] 4 (0, 0)) ∧ X S
theorem hasI_stays (S : Nat) (o : BitVec 64) : Stays (HasI S o) := fun pre X V V' ⟨h1, h2, h3⟩ hl hf => ⟨h1, hf.blk h2 fun e => e h3, h3⟩
def HasX (S : Nat) (b : Bool) (X : Nat → Prop) (W : World) : Prop := W.heap[S]? = some (.cells #[.bool b] 4 (0, 0)) ∧ X S
set_option maxRecDepth 100000 in
set_option maxHeartbeats 8000000 in
theorem has_any (h o : BitVec 64) (w : World) (hK : Known w) :
    Calls Tryd.prog 12 #[.int .i64 (IV h), .int .i64 (IV o)] w fun e w' => e = .returned (.bool (hasV h o)) ∧ Below w.heap.size w w' := by
  have hb := bits_and_v h o
  obtain ⟨b, hbb⟩ : ∃ b, ((h &&& o) != 0#64) = b := ⟨_, rfl⟩
  have he1 : (IV (h &&& o) == 0) = !b := by rw [iv_zero, ← hbb, bne, Bool.not_not]
  have he2 : (IV (h &&& o) != 0) = b := by rw [bne, he1, Bool.not_not]
  have HB := Lib.hid hbb
  clear hbb
  refine (callsIn_wide (n := 20)).1 ?_
  refine callsIn_of_wp_marks Tryd.func12 rfl trivial ?_ rfl
  simp only [Tryd.ntmps12, List.size_toArray, List.length_cons, List.length_nil, Nat.reduceAdd, Nat.reduceSub, Array.replicate_succ, Array.replicate_zero, List.push_toArray, List.append_toArray, List.nil_append, List.cons_append]
  gi_wp2_with fail
  refine ⟨trivial, (calls_wide (.inl rfl) (all_any _)).mono ?_⟩
  rintro e w2 ⟨rfl, hw2⟩
  have hb0 : w2.heap[w.heap.size]? = some (.cells #[.int .i64 (IV h)] 3 (0, 0)) := by rw [hw2]; exact blk_alloc (blk_alloc (heap_alloc_new w _) _) _
  have hb1 : w2.heap[w.heap.size + 1]? = some (.cells #[.int .i64 (IV o)] 3 (0, 0)) := by rw [hw2]; exact blk_alloc (heap_alloc2_new w _ _) _
  have hb2 : w2.heap[w.heap.size + 2]? = some (.cells #[.bool false] 4 (0, 0)) := by
    rw [hw2]
    have := heap_alloc2_new (w.alloc (.cells #[.int .i64 (IV h)] 3)) (.cells #[.int .i64 (IV o)] 3) (.cells #[.bool false] 4)
    rwa [World.size_alloc] at this
  have f2 : Fr (fun _ => False) w w2 := by rw [hw2]; exact (((Fr.refl _ w).alloc _).alloc _).alloc _
  have hz : w2.heap.size = w.heap.size + 3 := by rw [hw2]; simp
  have hK2 := hK.kept (f2.below (Nat.le_refl _) fun _ _ e => e.elim)
  have hKl := hK.lt
  clear hw2
  have H := Lib.hid (And.intro hb0 (And.intro hb1 (And.intro hb2 (And.intro f2 (And.intro hz (And.intro hK2 hKl))))))
  clear hb0 hb1 hb2 f2 hz hK2 hKl hK
  gi_wp2_with fail
  obtain ⟨hb0, hb1, hb2, f2, hz, hK2, hKl⟩ := H.out
  refine wpIn_rangeF (X := fun k => k = w.heap.size + 2) (Y := knownY) (xs := knownC) (encs := encCap) (gf := 22) (lb := #[]) (HasI (w.heap.size + 2) o) (fun c pre X1 W => (c = .ret ∧ ∃ y ∈ pre, y.2 = IV o) ∧ HasX (w.heap.size + 2) b X1 W)
    rfl (all_seqF w2 hK2) (fun k hk => ⟨by omega, fun e => by unfold knownY at e; omega⟩) (fun k hk => by unfold knownY at hk; omega) (by omega) (enters_of Tryd.func22 (by kernel_rfl) rfl) (fun _ => rfl)
    (hasI_stays _ _) (fun c s X1 V1 V2 hh h1 h2 => ⟨hh.1, h2.blk hh.2.1 fun e => e hh.2.2, hh.2.2⟩) ⟨fun y hy => (by cases hy), hb2, rfl⟩ ?round ?done ?stop
  case round =>
    rintro l pre ⟨nm, v⟩ r X1 V K rb hl2 hpx ⟨hI1, hI2, hI3⟩ hG hxl hF hlV hK
    dsimp only [encCap]
    have HK := Lib.hid hK
    have HV := Lib.hid (And.intro hpx (And.intro hI1 (And.intro hI2 (And.intro hI3 (And.intro hG (And.intro hxl (And.intro hF (And.intro hlV hl2))))))))
    clear hK hpx hI1 hI2 hI3 hG hxl hF hlV hl2 hb0 hb1 hb2 f2 hz hK2 hKl
    gi_wp2_with fail
    refine HK.out _ _ (Fr.refl _ _) fun Vb hfb hzb hsb hrb => ?_
    clear HK K
    obtain ⟨hpx, hI1, hI2, hI3, hG, hxl, hF, hlV, hl2⟩ := HV.out
    obtain ⟨hb0, hb1, hb2, f2, hz, hK2, hKl⟩ := H.out
    have k0 := hfb.blk (hF.blk hb0 (by omega)) (by omega)
    have k1 := hfb.blk (hF.blk hb1 (by omega)) (by omega)
    have k2 := hfb.blk hI2 (fun e => hxl (e ▸ hI3))
    have c0 := blk_cell k0 0
    have c1 := blk_cell k1 0
    have g2 := blk_free k2 0
    have d2 := blk_cell k2 0
    have hzs : Vb.heap.size = V.heap.size := hzb
    by_cases hv : v = IV o
    · have q1 : (v == IV o) = true := by simpa using hv
      have HE := Lib.hid (And.intro hv (And.intro hfb (And.intro hrb (And.intro hzs (And.intro k2 q1)))))
      clear hpx hI1 hI2 hG hF hb0 hb1 hb2 f2 hz hK2 hKl hfb hzb hsb hrb hzs k0 k1 k2 hv q1
      have q1 := HE.out.2.2.2.2.2
      gi_wp2_with fail
      obtain ⟨hv, hfb, hrb, hzs, k2, _⟩ := HE.out
      obtain ⟨_, _, _, _, hG, _, _, hlV, _⟩ := HV.out
      have hne : l ≠ w.heap.size + 2 := fun e => hxl (e ▸ hI3)
      refine ⟨X1, fun k hk => ⟨by simp; rw [hzs]; exact (hG k hk).1, fun _ => hk⟩, (hfb.mono (Y := fun k => k = l ∨ X1 k) fun k _ e => .inl e).setCell _ (.inr hI3) _, blk_other hrb _ (by simpa using hne) _, ⟨rfl, _, List.mem_append_right _ List.mem_cons_self, hv⟩, blk_set k2 0 _, hI3⟩
    · have q1 : (v == IV o) = false := by simpa using hv
      have HE := Lib.hid (And.intro hv (And.intro hfb (And.intro hrb (And.intro hzs (And.intro k2 q1)))))
      clear hpx hI1 hI2 hG hF hb0 hb1 hb2 f2 hz hK2 hKl hfb hzb hsb hrb hzs k0 k1 k2 hv q1
      have q1 := HE.out.2.2.2.2.2
      gi_wp2_with fail
      obtain ⟨hv, hfb, hrb, hzs, k2, _⟩ := HE.out
      obtain ⟨_, hI1, _, _, hG, _, _, hlV, _⟩ := HV.out
      refine ⟨X1, fun k hk => ⟨by rw [hzs]; exact (hG k hk).1, fun _ => hk⟩, hfb.mono (Y := fun k => k = l ∨ X1 k) fun k _ e => .inl e, hrb, fun y hy => ?_, k2, hI3⟩
      rw [List.mem_append, List.mem_singleton] at hy
      rcases hy with hy | rfl
      · exact hI1 y hy
      · exact hv
  case done =>
    rintro D X2 V hD hxD hG hF ⟨hI1, hI2, hI3⟩ hdef
    have g2 := blk_free hI2 0
    have d2 := blk_cell hI2 0
    have HE := Lib.hid (And.intro hI1 (And.intro hI2 (And.intro hF hdef)))
    clear hI1 hI2 hF hdef hG hb0 hb1 hb2 f2 hK2 hKl
    gi_wp2_with fail
    obtain ⟨hI1, hI2, hF, hdef⟩ := HE.out
    obtain ⟨hb0, hb1, hb2, f2, hz, hK2, hKl⟩ := H.out
    have hno : hasV h o = false := by
      unfold hasV
      rw [Bool.and_eq_false_iff]
      refine .inl (List.any_eq_false.2 fun y hy => ?_)
      simpa using hI1 y hy
    have hne : D ≠ w.heap.size + 2 := by omega
    refine leaves_one D _ (blk_other hdef _ (by simpa using hne) _) fun w' hf => ⟨_, res_in rfl _ _ (w.heap.size + 2) (.bool false) _ rfl ((blk_cell (hf.blk (blk_set hI2 0 _) fun e => hne e.symm) 0).trans rfl) rfl rfl, by rw [hno], ?_⟩
    refine Fr.below (X := fun k => w.heap.size ≤ k) ?_ (Nat.le_refl _) fun k hk e => by omega
    exact (((f2.mono (Y := fun k => w.heap.size ≤ k) fun _ _ e => e.elim).trans3 hF fun k _ e => by omega).setCell _ (by show w.heap.size ≤ w.heap.size + 2; omega) _).trans3 hf fun k _ e => by omega
  case stop =>
    rintro D c pre r X2 V hD hpr hxD hG hF ⟨⟨rfl, y, hy, hyo⟩, hI2, hI3⟩ hdef
    have hne : D ≠ w.heap.size + 2 := by omega
    have hyes : hasV h o = b := by
      unfold hasV
      rw [HB.out, List.any_eq_true.2 ⟨y, by rw [← hpr]; exact List.mem_append_left _ hy, by simpa using hyo⟩, Bool.true_and]
    refine wpIn_ret ?_
    refine leaves_one D _ hdef fun w' hf => ⟨_, res_in rfl _ _ (w.heap.size + 2) (.bool b) _ rfl ((blk_cell (hf.blk hI2 fun e => hne e.symm) 0).trans rfl) rfl rfl, by rw [hyes], ?_⟩
    refine Fr.below (X := fun k => w.heap.size ≤ k) ?_ (Nat.le_refl _) fun k hk e => by omega
    exact ((f2.mono (Y := fun k => w.heap.size ≤ k) fun _ _ e => e.elim).trans3 hF fun k _ e => by omega).trans3 hf fun k _ e => by omega
end Go.Proofs.YtadojlmjapmbhaaDoor
end
section
/- Layer 15: Check on both sides. -/
namespace Go.Proofs.YtadojlmjapmbhaaDoor
set_option linter.unusedVariables false
set_option linter.unusedSimpArgs false
open Go.RowKit

/-- a configuration, as a value -/
def cfg (nm ps on op : ByteArray) (n0 n1 n2 n3 n4 n5 n6 n7 n8 n9 n10 : Int) : Value := .agg #[.string nm, .string ps, .string on, .string op, .int .i64 n0, .int .i64 n1, .int .i64 n2, .int .i64 n3, .int .i64 n4, .int .i64 n5, .int .i64 n6, .int .i64 n7, .int .i64 n8, .int .i64 n9, .int .i64 n10]
/-- may all numbers be as they are? -/
def numsB (n0 n1 n2 n3 n4 n5 n6 n7 n8 n9 n10 : Int) : Bool := inR n0 1 1000 && inR n1 512 65536 && inR n2 1 1000 && inR n3 1 1000 && inR n4 1 1000 && inR n5 1 1000 && inR n6 1 1000 && inR n7 0 1000 && inR n8 1 1000000 && inR n9 1 1000000 && inR n10 1 1000000
/-- the numbers' own answers, one by one -/
def numsL (n0 n1 n2 n3 n4 n5 n6 n7 n8 n9 n10 : Int) : List Bool := [inR n0 1 1000, inR n1 512 65536, inR n2 1 1000, inR n3 1 1000, inR n4 1 1000, inR n5 1 1000, inR n6 1 1000, inR n7 0 1000, inR n8 1 1000000, inR n9 1 1000000, inR n10 1 1000000]
theorem nums_all (n0 n1 n2 n3 n4 n5 n6 n7 n8 n9 n10 : Int) : numsB n0 n1 n2 n3 n4 n5 n6 n7 n8 n9 n10 = (numsL n0 n1 n2 n3 n4 n5 n6 n7 n8 n9 n10).all id := by
  simp [numsB, numsL, Bool.and_assoc]
theorem nums_no {n0 n1 n2 n3 n4 n5 n6 n7 n8 n9 n10 : Int} {k : Nat} (h : (numsL n0 n1 n2 n3 n4 n5 n6 n7 n8 n9 n10)[k]? = some false) : numsB n0 n1 n2 n3 n4 n5 n6 n7 n8 n9 n10 = false := by
  rw [nums_all, List.all_eq_false]
  exact ⟨false, List.mem_of_getElem? h, by simp⟩
theorem nums_yes {n0 n1 n2 n3 n4 n5 n6 n7 n8 n9 n10 : Int} (h : ∀ k, k < 11 → (numsL n0 n1 n2 n3 n4 n5 n6 n7 n8 n9 n10)[k]? = some true) : numsB n0 n1 n2 n3 n4 n5 n6 n7 n8 n9 n10 = true := by
  rw [nums_all, List.all_eq_true]
  intro x hx
  obtain ⟨k, hk⟩ := List.mem_iff_getElem?.1 hx
  have hl : k < 11 := by
    have := (List.getElem?_eq_some_iff.1 hk).1
    simpa [numsL] using this
  rw [h k hl] at hk
  cases hk
  rfl
/-- what the numbers are told of -/
def chkN (n0 n1 n2 n3 n4 n5 n6 n7 n8 n9 n10 : Int) : Int := if numsB n0 n1 n2 n3 n4 n5 n6 n7 n8 n9 n10 then 0 else 2
theorem chkN_yes {n0 n1 n2 n3 n4 n5 n6 n7 n8 n9 n10 : Int} (h : numsB n0 n1 n2 n3 n4 n5 n6 n7 n8 n9 n10 = true) : 0 = chkN n0 n1 n2 n3 n4 n5 n6 n7 n8 n9 n10 := by unfold chkN; rw [if_pos h]
theorem chkN_no {n0 n1 n2 n3 n4 n5 n6 n7 n8 n9 n10 : Int} {k : Nat} (h : (numsL n0 n1 n2 n3 n4 n5 n6 n7 n8 n9 n10)[k]? = some false) : 2 = chkN n0 n1 n2 n3 n4 n5 n6 n7 n8 n9 n10 := by unfold chkN; rw [nums_no h]; rfl
theorem inR_yes {n a b : Int} (h1 : a ≤ n) (h2 : n ≤ b) : some (inR n a b) = some true := by rw [show inR n a b = true from decide_eq_true ⟨h1, h2⟩]
theorem inR_no {n a b : Int} (h : ¬ (a ≤ n ∧ n ≤ b)) : some (inR n a b) = some false := by rw [show inR n a b = false from decide_eq_false h]
/-- what a configuration is told of -/
def chkI (sv pa po pp eo ep r : Bool) : Int := if sv && pa && po && pp && (eo == ep) then (if r then 0 else 2) else 4

set_option maxRecDepth 100000 in
set_option maxHeartbeats 8000000 in
theorem check_texts (nm ps on op : ByteArray) (n0 n1 n2 n3 n4 n5 n6 n7 n8 n9 n10 : Int) (w : World) (hr : Rowed w) (h1 : nm.size ≤ 1000000) (h2 : ps.size ≤ 1000000) (h3 : on.size ≤ 1000000) (h4 : op.size ≤ 1000000)
    (hno : (dec (ServP nm) && dec (PassP ps) && dec (PassP on) && dec (PassP op) && (on.toList.isEmpty == op.toList.isEmpty)) = false) :
    Calls Tryd.prog 24 #[cfg nm ps on op n0 n1 n2 n3 n4 n5 n6 n7 n8 n9 n10] w fun e w' => e = .returned (.int .i64 4) ∧ Below w.heap.size w w' := by
  unfold cfg
  obtain ⟨sv, hsv⟩ : ∃ x, dec (ServP nm) = x := ⟨_, rfl⟩
  obtain ⟨pa, hpa⟩ : ∃ x, dec (PassP ps) = x := ⟨_, rfl⟩
  obtain ⟨po, hpo⟩ : ∃ x, dec (PassP on) = x := ⟨_, rfl⟩
  obtain ⟨pp, hpp⟩ : ∃ x, dec (PassP op) = x := ⟨_, rfl⟩
  have hr1 : Rowed (w.alloc (.cells #[.string nm, .string ps, .string on, .string op, .int .i64 n0, .int .i64 n1, .int .i64 n2, .int .i64 n3, .int .i64 n4, .int .i64 n5, .int .i64 n6, .int .i64 n7, .int .i64 n8, .int .i64 n9, .int .i64 n10] 33)) := rowed_below hr (Nat.le_refl _) ((Below.refl _ _).alloc (Nat.le_refl _) _)
  rw [hsv, hpa, hpo, hpp] at hno
  have SV := Lib.hid hsv
  have PA := Lib.hid hpa
  have PO := Lib.hid hpo
  have PP := Lib.hid hpp
  clear hsv hpa hpo hpp
  go_enter Tryd.func24, Tryd.ntmps24
  go_wp2_with fail
  refine (serv_v _ _ h1 hr1).mono ?_
  rintro e w1 ⟨rfl, rfl⟩
  rw [SV.out]
  cases sv
  · go_wp2_with fail
    go_ret
    exact ⟨rfl, (Below.refl _ _).alloc (Nat.le_refl _) _⟩
  go_wp2_with fail
  refine (pass_v _ _ h2).mono ?_
  rintro e w1 ⟨rfl, rfl⟩
  rw [PA.out]
  cases pa
  · go_wp2_with fail
    go_ret
    exact ⟨rfl, (Below.refl _ _).alloc (Nat.le_refl _) _⟩
  go_wp2_with fail
  refine (pass_v _ _ h3).mono ?_
  rintro e w1 ⟨rfl, rfl⟩
  rw [PO.out]
  cases po
  · go_wp2_with fail
    go_ret
    exact ⟨rfl, (Below.refl _ _).alloc (Nat.le_refl _) _⟩
  go_wp2_with fail
  refine (pass_v _ _ h4).mono ?_
  rintro e w1 ⟨rfl, rfl⟩
  rw [PP.out]
  cases pp
  · go_wp2_with fail
    go_ret
    exact ⟨rfl, (Below.refl _ _).alloc (Nat.le_refl _) _⟩
  · cases e1 : on.toList.isEmpty <;> cases e2 : op.toList.isEmpty <;> rw [e1, e2] at hno <;> first | (exfalso; exact Bool.noConfusion hno) | skip
    all_goals
      go_wp2_with fail
      go_ret
      exact ⟨rfl, (Below.refl _ _).alloc (Nat.le_refl _) _⟩

set_option maxRecDepth 100000 in
set_option maxHeartbeats 16000000 in
theorem check_nums (nm ps on op : ByteArray) (n0 n1 n2 n3 n4 n5 n6 n7 n8 n9 n10 : Int) (w : World) (hr : Rowed w) (h1 : nm.size ≤ 1000000) (h2 : ps.size ≤ 1000000) (h3 : on.size ≤ 1000000) (h4 : op.size ≤ 1000000)
    (hsv : dec (ServP nm) = true) (hpa : dec (PassP ps) = true) (hpo : dec (PassP on) = true) (hpp : dec (PassP op) = true) (hee : (on.toList.isEmpty == op.toList.isEmpty) = true) :
    Calls Tryd.prog 24 #[cfg nm ps on op n0 n1 n2 n3 n4 n5 n6 n7 n8 n9 n10] w fun e w' => e = .returned (.int .i64 (chkN n0 n1 n2 n3 n4 n5 n6 n7 n8 n9 n10)) ∧ Below w.heap.size w w' := by
  unfold cfg
  have hr1 : Rowed (w.alloc (.cells #[.string nm, .string ps, .string on, .string op, .int .i64 n0, .int .i64 n1, .int .i64 n2, .int .i64 n3, .int .i64 n4, .int .i64 n5, .int .i64 n6, .int .i64 n7, .int .i64 n8, .int .i64 n9, .int .i64 n10] 33)) := rowed_below hr (Nat.le_refl _) ((Below.refl _ _).alloc (Nat.le_refl _) _)
  have SV := Lib.hid hsv
  have PA := Lib.hid hpa
  have PO := Lib.hid hpo
  have PP := Lib.hid hpp
  have he : on.toList.isEmpty = op.toList.isEmpty := by simpa using hee
  clear hsv hpa hpo hpp hee
  obtain ⟨b, hb⟩ : ∃ b, op.toList.isEmpty = b := ⟨_, rfl⟩
  rw [hb] at he
  go_enter Tryd.func24, Tryd.ntmps24
  go_wp2_with fail
  refine (serv_v _ _ h1 hr1).mono ?_
  rintro e w1 ⟨rfl, rfl⟩
  rw [SV.out]
  go_wp2_with fail
  refine (pass_v _ _ h2).mono ?_
  rintro e w1 ⟨rfl, rfl⟩
  rw [PA.out]
  go_wp2_with fail
  refine (pass_v _ _ h3).mono ?_
  rintro e w1 ⟨rfl, rfl⟩
  rw [PO.out]
  go_wp2_with fail
  refine (pass_v _ _ h4).mono ?_
  rintro e w1 ⟨rfl, rfl⟩
  rw [PP.out]
  go_wp2_with fail
  clear hr1
  obtain ⟨W2, hW2⟩ : ∃ W2, W2 = (w.alloc (.cells #[.string nm, .string ps, .string on, .string op, .int .i64 n0, .int .i64 n1, .int .i64 n2, .int .i64 n3, .int .i64 n4, .int .i64 n5, .int .i64 n6, .int .i64 n7, .int .i64 n8, .int .i64 n9, .int .i64 n10] 33)).alloc (.cells #[.int .i64 n0, .int .i64 1, .int .i64 1000, .int .i64 n1, .int .i64 512, .int .i64 65536, .int .i64 n2, .int .i64 1, .int .i64 1000, .int .i64 n3, .int .i64 1, .int .i64 1000, .int .i64 n4, .int .i64 1, .int .i64 1000, .int .i64 n5, .int .i64 1, .int .i64 1000, .int .i64 n6, .int .i64 1, .int .i64 1000, .int .i64 n7, .int .i64 0, .int .i64 1000, .int .i64 n8, .int .i64 1, .int .i64 1000000, .int .i64 n9, .int .i64 1, .int .i64 1000000, .int .i64 n10, .int .i64 1, .int .i64 1000000] 68) := ⟨_, rfl⟩
  rw [← hW2]
  have hcell : ∀ j v, (#[.int .i64 n0, .int .i64 1, .int .i64 1000, .int .i64 n1, .int .i64 512, .int .i64 65536, .int .i64 n2, .int .i64 1, .int .i64 1000, .int .i64 n3, .int .i64 1, .int .i64 1000, .int .i64 n4, .int .i64 1, .int .i64 1000, .int .i64 n5, .int .i64 1, .int .i64 1000, .int .i64 n6, .int .i64 1, .int .i64 1000, .int .i64 n7, .int .i64 0, .int .i64 1000, .int .i64 n8, .int .i64 1, .int .i64 1000000, .int .i64 n9, .int .i64 1, .int .i64 1000000, .int .i64 n10, .int .i64 1, .int .i64 1000000] : Array Value)[j]? = some v → W2.cell? ⟨w.heap.size + 1, j, none⟩ = some v := fun j v hv => by
    rw [hW2]
    have hrow : ((w.alloc (.cells #[.string nm, .string ps, .string on, .string op, .int .i64 n0, .int .i64 n1, .int .i64 n2, .int .i64 n3, .int .i64 n4, .int .i64 n5, .int .i64 n6, .int .i64 n7, .int .i64 n8, .int .i64 n9, .int .i64 n10] 33)).alloc (.cells #[.int .i64 n0, .int .i64 1, .int .i64 1000, .int .i64 n1, .int .i64 512, .int .i64 65536, .int .i64 n2, .int .i64 1, .int .i64 1000, .int .i64 n3, .int .i64 1, .int .i64 1000, .int .i64 n4, .int .i64 1, .int .i64 1000, .int .i64 n5, .int .i64 1, .int .i64 1000, .int .i64 n6, .int .i64 1, .int .i64 1000, .int .i64 n7, .int .i64 0, .int .i64 1000, .int .i64 n8, .int .i64 1, .int .i64 1000000, .int .i64 n9, .int .i64 1, .int .i64 1000000, .int .i64 n10, .int .i64 1, .int .i64 1000000] 68)).heap[w.heap.size + 1]? = some (.cells #[.int .i64 n0, .int .i64 1, .int .i64 1000, .int .i64 n1, .int .i64 512, .int .i64 65536, .int .i64 n2, .int .i64 1, .int .i64 1000, .int .i64 n3, .int .i64 1, .int .i64 1000, .int .i64 n4, .int .i64 1, .int .i64 1000, .int .i64 n5, .int .i64 1, .int .i64 1000, .int .i64 n6, .int .i64 1, .int .i64 1000, .int .i64 n7, .int .i64 0, .int .i64 1000, .int .i64 n8, .int .i64 1, .int .i64 1000000, .int .i64 n9, .int .i64 1, .int .i64 1000000, .int .i64 n10, .int .i64 1, .int .i64 1000000] 68 (0, 0)) := by
      have := heap_alloc_new (w.alloc (.cells #[.string nm, .string ps, .string on, .string op, .int .i64 n0, .int .i64 n1, .int .i64 n2, .int .i64 n3, .int .i64 n4, .int .i64 n5, .int .i64 n6, .int .i64 n7, .int .i64 n8, .int .i64 n9, .int .i64 n10] 33)) (.cells #[.int .i64 n0, .int .i64 1, .int .i64 1000, .int .i64 n1, .int .i64 512, .int .i64 65536, .int .i64 n2, .int .i64 1, .int .i64 1000, .int .i64 n3, .int .i64 1, .int .i64 1000, .int .i64 n4, .int .i64 1, .int .i64 1000, .int .i64 n5, .int .i64 1, .int .i64 1000, .int .i64 n6, .int .i64 1, .int .i64 1000, .int .i64 n7, .int .i64 0, .int .i64 1000, .int .i64 n8, .int .i64 1, .int .i64 1000000, .int .i64 n9, .int .i64 1, .int .i64 1000000, .int .i64 n10, .int .i64 1, .int .i64 1000000] 68)
      rwa [World.size_alloc] at this
    rw [cell_of_row _ _ j _ _ (0, 0) hrow]; exact hv
  have hB2 : Below w.heap.size w W2 := by rw [hW2]; exact ((Below.refl _ _).alloc (Nat.le_refl _) _).alloc (by simp) _
  have hs2 : W2.heap.size = w.heap.size + 2 := by rw [hW2]; simp
  have HC := Lib.hid hcell
  have HB := Lib.hid hB2
  have HS := Lib.hid hs2
  clear hW2 hcell hB2 hs2
  go_loopw [4, 71] (fun _ i wr => ∃ k : Nat, i = .int .i64 k ∧ k ≤ 11 ∧ Hid (∀ j, j < k → (numsL n0 n1 n2 n3 n4 n5 n6 n7 n8 n9 n10)[j]? = some true) ∧ Hid (Below (w.heap.size + 2) W2 wr ∧ w.heap.size + 2 ≤ wr.heap.size)) (fun _ i _ => 11 - (Go.RowKit.intOf i).toNat)
  case atStart => exact ⟨0, rfl, by omega, fun _ h => absurd h (Nat.not_lt_zero _), Below.refl _ _, by rw [HS.out]; exact Nat.le_refl _⟩
  case round =>
    obtain ⟨k, rfl, hk, HQ, HW⟩ := hrel
    rcases (by omega : k = 0 ∨ k = 1 ∨ k = 2 ∨ k = 3 ∨ k = 4 ∨ k = 5 ∨ k = 6 ∨ k = 7 ∨ k = 8 ∨ k = 9 ∨ k = 10 ∨ k = 11) with rfl | rfl | rfl | rfl | rfl | rfl | rfl | rfl | rfl | rfl | rfl | rfl
    · have c0 : wr.cell? ⟨w.heap.size + 1, 0, none⟩ = some (.int .i64 n0) := (HW.out.1.cell (p := ⟨w.heap.size + 1, 0, none⟩) (by simp)).trans (HC.out 0 _ rfl)
      have c1 : wr.cell? ⟨w.heap.size + 1, 1, none⟩ = some (.int .i64 1) := (HW.out.1.cell (p := ⟨w.heap.size + 1, 1, none⟩) (by simp)).trans (HC.out 1 _ rfl)
      have c2 : wr.cell? ⟨w.heap.size + 1, 2, none⟩ = some (.int .i64 1000) := (HW.out.1.cell (p := ⟨w.heap.size + 1, 2, none⟩) (by simp)).trans (HC.out 2 _ rfl)
      by_cases l1 : 1 ≤ n0
      · by_cases l2 : n0 ≤ 1000
        · go_wp2_with fail
          go_roundw
          case rel => exact ⟨1, by first | rfl | go_num, by omega, fun j hj => (by
            by_cases e : j = 0
            · subst e; exact inR_yes l1 l2
            · exact HQ.out j (by omega)), HW.out.1.alloc HW.out.2 _, by have := HW.out.2; simp; omega⟩
          case measure => simp [Go.RowKit.intOf]
        · go_wp2_with fail
          go_ret
          exact ⟨ret_int (chkN_no (k := 0) (inR_no (by omega))), HB.out.trans ((HW.out.1.alloc HW.out.2 _).mono (by omega))⟩
      · go_wp2_with fail
        go_ret
        exact ⟨ret_int (chkN_no (k := 0) (inR_no (by omega))), HB.out.trans ((HW.out.1.alloc HW.out.2 _).mono (by omega))⟩
    · have c0 : wr.cell? ⟨w.heap.size + 1, 3, none⟩ = some (.int .i64 n1) := (HW.out.1.cell (p := ⟨w.heap.size + 1, 3, none⟩) (by simp)).trans (HC.out 3 _ rfl)
      have c1 : wr.cell? ⟨w.heap.size + 1, 4, none⟩ = some (.int .i64 512) := (HW.out.1.cell (p := ⟨w.heap.size + 1, 4, none⟩) (by simp)).trans (HC.out 4 _ rfl)
      have c2 : wr.cell? ⟨w.heap.size + 1, 5, none⟩ = some (.int .i64 65536) := (HW.out.1.cell (p := ⟨w.heap.size + 1, 5, none⟩) (by simp)).trans (HC.out 5 _ rfl)
      by_cases l1 : 512 ≤ n1
      · by_cases l2 : n1 ≤ 65536
        · go_wp2_with fail
          go_roundw
          case rel => exact ⟨2, by first | rfl | go_num, by omega, fun j hj => (by
            by_cases e : j = 1
            · subst e; exact inR_yes l1 l2
            · exact HQ.out j (by omega)), HW.out.1.alloc HW.out.2 _, by have := HW.out.2; simp; omega⟩
          case measure => simp [Go.RowKit.intOf]
        · go_wp2_with fail
          go_ret
          exact ⟨ret_int (chkN_no (k := 1) (inR_no (by omega))), HB.out.trans ((HW.out.1.alloc HW.out.2 _).mono (by omega))⟩
      · go_wp2_with fail
        go_ret
        exact ⟨ret_int (chkN_no (k := 1) (inR_no (by omega))), HB.out.trans ((HW.out.1.alloc HW.out.2 _).mono (by omega))⟩
    · have c0 : wr.cell? ⟨w.heap.size + 1, 6, none⟩ = some (.int .i64 n2) := (HW.out.1.cell (p := ⟨w.heap.size + 1, 6, none⟩) (by simp)).trans (HC.out 6 _ rfl)
      have c1 : wr.cell? ⟨w.heap.size + 1, 7, none⟩ = some (.int .i64 1) := (HW.out.1.cell (p := ⟨w.heap.size + 1, 7, none⟩) (by simp)).trans (HC.out 7 _ rfl)
      have c2 : wr.cell? ⟨w.heap.size + 1, 8, none⟩ = some (.int .i64 1000) := (HW.out.1.cell (p := ⟨w.heap.size + 1, 8, none⟩) (by simp)).trans (HC.out 8 _ rfl)
      by_cases l1 : 1 ≤ n2
      · by_cases l2 : n2 ≤ 1000
        · go_wp2_with fail
          go_roundw
          case rel => exact ⟨3, by first | rfl | go_num, by omega, fun j hj => (by
            by_cases e : j = 2
            · subst e; exact inR_yes l1 l2
            · exact HQ.out j (by omega)), HW.out.1.alloc HW.out.2 _, by have := HW.out.2; simp; omega⟩
          case measure => simp [Go.RowKit.intOf]
        · go_wp2_with fail
          go_ret
          exact ⟨ret_int (chkN_no (k := 2) (inR_no (by omega))), HB.out.trans ((HW.out.1.alloc HW.out.2 _).mono (by omega))⟩
      · go_wp2_with fail
        go_ret
        exact ⟨ret_int (chkN_no (k := 2) (inR_no (by omega))), HB.out.trans ((HW.out.1.alloc HW.out.2 _).mono (by omega))⟩
    · have c0 : wr.cell? ⟨w.heap.size + 1, 9, none⟩ = some (.int .i64 n3) := (HW.out.1.cell (p := ⟨w.heap.size + 1, 9, none⟩) (by simp)).trans (HC.out 9 _ rfl)
      have c1 : wr.cell? ⟨w.heap.size + 1, 10, none⟩ = some (.int .i64 1) := (HW.out.1.cell (p := ⟨w.heap.size + 1, 10, none⟩) (by simp)).trans (HC.out 10 _ rfl)
      have c2 : wr.cell? ⟨w.heap.size + 1, 11, none⟩ = some (.int .i64 1000) := (HW.out.1.cell (p := ⟨w.heap.size + 1, 11, none⟩) (by simp)).trans (HC.out 11 _ rfl)
      by_cases l1 : 1 ≤ n3
      · by_cases l2 : n3 ≤ 1000
        · go_wp2_with fail
          go_roundw
          case rel => exact ⟨4, by first | rfl | go_num, by omega, fun j hj => (by
            by_cases e : j = 3
            · subst e; exact inR_yes l1 l2
            · exact HQ.out j (by omega)), HW.out.1.alloc HW.out.2 _, by have := HW.out.2; simp; omega⟩
          case measure => simp [Go.RowKit.intOf]
        · go_wp2_with fail
          go_ret
          exact ⟨ret_int (chkN_no (k := 3) (inR_no (by omega))), HB.out.trans ((HW.out.1.alloc HW.out.2 _).mono (by omega))⟩
      · go_wp2_with fail
        go_ret
        exact ⟨ret_int (chkN_no (k := 3) (inR_no (by omega))), HB.out.trans ((HW.out.1.alloc HW.out.2 _).mono (by omega))⟩
    · have c0 : wr.cell? ⟨w.heap.size + 1, 12, none⟩ = some (.int .i64 n4) := (HW.out.1.cell (p := ⟨w.heap.size + 1, 12, none⟩) (by simp)).trans (HC.out 12 _ rfl)
      have c1 : wr.cell? ⟨w.heap.size + 1, 13, none⟩ = some (.int .i64 1) := (HW.out.1.cell (p := ⟨w.heap.size + 1, 13, none⟩) (by simp)).trans (HC.out 13 _ rfl)
      have c2 : wr.cell? ⟨w.heap.size + 1, 14, none⟩ = some (.int .i64 1000) := (HW.out.1.cell (p := ⟨w.heap.size + 1, 14, none⟩) (by simp)).trans (HC.out 14 _ rfl)
      by_cases l1 : 1 ≤ n4
      · by_cases l2 : n4 ≤ 1000
        · go_wp2_with fail
          go_roundw
          case rel => exact ⟨5, by first | rfl | go_num, by omega, fun j hj => (by
            by_cases e : j = 4
            · subst e; exact inR_yes l1 l2
            · exact HQ.out j (by omega)), HW.out.1.alloc HW.out.2 _, by have := HW.out.2; simp; omega⟩
          case measure => simp [Go.RowKit.intOf]
        · go_wp2_with fail
          go_ret
          exact ⟨ret_int (chkN_no (k := 4) (inR_no (by omega))), HB.out.trans ((HW.out.1.alloc HW.out.2 _).mono (by omega))⟩
      · go_wp2_with fail
        go_ret
        exact ⟨ret_int (chkN_no (k := 4) (inR_no (by omega))), HB.out.trans ((HW.out.1.alloc HW.out.2 _).mono (by omega))⟩
    · have c0 : wr.cell? ⟨w.heap.size + 1, 15, none⟩ = some (.int .i64 n5) := (HW.out.1.cell (p := ⟨w.heap.size + 1, 15, none⟩) (by simp)).trans (HC.out 15 _ rfl)
      have c1 : wr.cell? ⟨w.heap.size + 1, 16, none⟩ = some (.int .i64 1) := (HW.out.1.cell (p := ⟨w.heap.size + 1, 16, none⟩) (by simp)).trans (HC.out 16 _ rfl)
      have c2 : wr.cell? ⟨w.heap.size + 1, 17, none⟩ = some (.int .i64 1000) := (HW.out.1.cell (p := ⟨w.heap.size + 1, 17, none⟩) (by simp)).trans (HC.out 17 _ rfl)
      by_cases l1 : 1 ≤ n5
      · by_cases l2 : n5 ≤ 1000
        · go_wp2_with fail
          go_roundw
          case rel => exact ⟨6, by first | rfl | go_num, by omega, fun j hj => (by
            by_cases e : j = 5
            · subst e; exact inR_yes l1 l2
            · exact HQ.out j (by omega)), HW.out.1.alloc HW.out.2 _, by have := HW.out.2; simp; omega⟩
          case measure => simp [Go.RowKit.intOf]
        · go_wp2_with fail
          go_ret
          exact ⟨ret_int (chkN_no (k := 5) (inR_no (by omega))), HB.out.trans ((HW.out.1.alloc HW.out.2 _).mono (by omega))⟩
      · go_wp2_with fail
        go_ret
        exact ⟨ret_int (chkN_no (k := 5) (inR_no (by omega))), HB.out.trans ((HW.out.1.alloc HW.out.2 _).mono (by omega))⟩
    · have c0 : wr.cell? ⟨w.heap.size + 1, 18, none⟩ = some (.int .i64 n6) := (HW.out.1.cell (p := ⟨w.heap.size + 1, 18, none⟩) (by simp)).trans (HC.out 18 _ rfl)
      have c1 : wr.cell? ⟨w.heap.size + 1, 19, none⟩ = some (.int .i64 1) := (HW.out.1.cell (p := ⟨w.heap.size + 1, 19, none⟩) (by simp)).trans (HC.out 19 _ rfl)
      have c2 : wr.cell? ⟨w.heap.size + 1, 20, none⟩ = some (.int .i64 1000) := (HW.out.1.cell (p := ⟨w.heap.size + 1, 20, none⟩) (by simp)).trans (HC.out 20 _ rfl)
      by_cases l1 : 1 ≤ n6
      · by_cases l2 : n6 ≤ 1000
        · go_wp2_with fail
          go_roundw
          case rel => exact ⟨7, by first | rfl | go_num, by omega, fun j hj => (by
            by_cases e : j = 6
            · subst e; exact inR_yes l1 l2
            · exact HQ.out j (by omega)), HW.out.1.alloc HW.out.2 _, by have := HW.out.2; simp; omega⟩
          case measure => simp [Go.RowKit.intOf]
        · go_wp2_with fail
          go_ret
          exact ⟨ret_int (chkN_no (k := 6) (inR_no (by omega))), HB.out.trans ((HW.out.1.alloc HW.out.2 _).mono (by omega))⟩
      · go_wp2_with fail
        go_ret
        exact ⟨ret_int (chkN_no (k := 6) (inR_no (by omega))), HB.out.trans ((HW.out.1.alloc HW.out.2 _).mono (by omega))⟩
    · have c0 : wr.cell? ⟨w.heap.size + 1, 21, none⟩ = some (.int .i64 n7) := (HW.out.1.cell (p := ⟨w.heap.size + 1, 21, none⟩) (by simp)).trans (HC.out 21 _ rfl)
      have c1 : wr.cell? ⟨w.heap.size + 1, 22, none⟩ = some (.int .i64 0) := (HW.out.1.cell (p := ⟨w.heap.size + 1, 22, none⟩) (by simp)).trans (HC.out 22 _ rfl)
      have c2 : wr.cell? ⟨w.heap.size + 1, 23, none⟩ = some (.int .i64 1000) := (HW.out.1.cell (p := ⟨w.heap.size + 1, 23, none⟩) (by simp)).trans (HC.out 23 _ rfl)
      by_cases l1 : 0 ≤ n7
      · by_cases l2 : n7 ≤ 1000
        · go_wp2_with fail
          go_roundw
          case rel => exact ⟨8, by first | rfl | go_num, by omega, fun j hj => (by
            by_cases e : j = 7
            · subst e; exact inR_yes l1 l2
            · exact HQ.out j (by omega)), HW.out.1.alloc HW.out.2 _, by have := HW.out.2; simp; omega⟩
          case measure => simp [Go.RowKit.intOf]
        · go_wp2_with fail
          go_ret
          exact ⟨ret_int (chkN_no (k := 7) (inR_no (by omega))), HB.out.trans ((HW.out.1.alloc HW.out.2 _).mono (by omega))⟩
      · go_wp2_with fail
        go_ret
        exact ⟨ret_int (chkN_no (k := 7) (inR_no (by omega))), HB.out.trans ((HW.out.1.alloc HW.out.2 _).mono (by omega))⟩
    · have c0 : wr.cell? ⟨w.heap.size + 1, 24, none⟩ = some (.int .i64 n8) := (HW.out.1.cell (p := ⟨w.heap.size + 1, 24, none⟩) (by simp)).trans (HC.out 24 _ rfl)
      have c1 : wr.cell? ⟨w.heap.size + 1, 25, none⟩ = some (.int .i64 1) := (HW.out.1.cell (p := ⟨w.heap.size + 1, 25, none⟩) (by simp)).trans (HC.out 25 _ rfl)
      have c2 : wr.cell? ⟨w.heap.size + 1, 26, none⟩ = some (.int .i64 1000000) := (HW.out.1.cell (p := ⟨w.heap.size + 1, 26, none⟩) (by simp)).trans (HC.out 26 _ rfl)
      by_cases l1 : 1 ≤ n8
      · by_cases l2 : n8 ≤ 1000000
        · go_wp2_with fail
          go_roundw
          case rel => exact ⟨9, by first | rfl | go_num, by omega, fun j hj => (by
            by_cases e : j = 8
            · subst e; exact inR_yes l1 l2
            · exact HQ.out j (by omega)), HW.out.1.alloc HW.out.2 _, by have := HW.out.2; simp; omega⟩
          case measure => simp [Go.RowKit.intOf]
        · go_wp2_with fail
          go_ret
          exact ⟨ret_int (chkN_no (k := 8) (inR_no (by omega))), HB.out.trans ((HW.out.1.alloc HW.out.2 _).mono (by omega))⟩
      · go_wp2_with fail
        go_ret
        exact ⟨ret_int (chkN_no (k := 8) (inR_no (by omega))), HB.out.trans ((HW.out.1.alloc HW.out.2 _).mono (by omega))⟩
    · have c0 : wr.cell? ⟨w.heap.size + 1, 27, none⟩ = some (.int .i64 n9) := (HW.out.1.cell (p := ⟨w.heap.size + 1, 27, none⟩) (by simp)).trans (HC.out 27 _ rfl)
      have c1 : wr.cell? ⟨w.heap.size + 1, 28, none⟩ = some (.int .i64 1) := (HW.out.1.cell (p := ⟨w.heap.size + 1, 28, none⟩) (by simp)).trans (HC.out 28 _ rfl)
      have c2 : wr.cell? ⟨w.heap.size + 1, 29, none⟩ = some (.int .i64 1000000) := (HW.out.1.cell (p := ⟨w.heap.size + 1, 29, none⟩) (by simp)).trans (HC.out 29 _ rfl)
      by_cases l1 : 1 ≤ n9
      · by_cases l2 : n9 ≤ 1000000
        · go_wp2_with fail
          go_roundw
          case rel => exact ⟨10, by first | rfl | go_num, by omega, fun j hj => (by
            by_cases e : j = 9
            · subst e; exact inR_yes l1 l2
            · exact HQ.out j (by omega)), HW.out.1.alloc HW.out.2 _, by have := HW.out.2; simp; omega⟩
          case measure => simp [Go.RowKit.intOf]
        · go_wp2_with fail
          go_ret
          exact ⟨ret_int (chkN_no (k := 9) (inR_no (by omega))), HB.out.trans ((HW.out.1.alloc HW.out.2 _).mono (by omega))⟩
      · go_wp2_with fail
        go_ret
        exact ⟨ret_int (chkN_no (k := 9) (inR_no (by omega))), HB.out.trans ((HW.out.1.alloc HW.out.2 _).mono (by omega))⟩
    · have c0 : wr.cell? ⟨w.heap.size + 1, 30, none⟩ = some (.int .i64 n10) := (HW.out.1.cell (p := ⟨w.heap.size + 1, 30, none⟩) (by simp)).trans (HC.out 30 _ rfl)
      have c1 : wr.cell? ⟨w.heap.size + 1, 31, none⟩ = some (.int .i64 1) := (HW.out.1.cell (p := ⟨w.heap.size + 1, 31, none⟩) (by simp)).trans (HC.out 31 _ rfl)
      have c2 : wr.cell? ⟨w.heap.size + 1, 32, none⟩ = some (.int .i64 1000000) := (HW.out.1.cell (p := ⟨w.heap.size + 1, 32, none⟩) (by simp)).trans (HC.out 32 _ rfl)
      by_cases l1 : 1 ≤ n10
      · by_cases l2 : n10 ≤ 1000000
        · go_wp2_with fail
          go_roundw
          case rel => exact ⟨11, by first | rfl | go_num, by omega, fun j hj => (by
            by_cases e : j = 10
            · subst e; exact inR_yes l1 l2
            · exact HQ.out j (by omega)), HW.out.1.alloc HW.out.2 _, by have := HW.out.2; simp; omega⟩
          case measure => simp [Go.RowKit.intOf]
        · go_wp2_with fail
          go_ret
          exact ⟨ret_int (chkN_no (k := 10) (inR_no (by omega))), HB.out.trans ((HW.out.1.alloc HW.out.2 _).mono (by omega))⟩
      · go_wp2_with fail
        go_ret
        exact ⟨ret_int (chkN_no (k := 10) (inR_no (by omega))), HB.out.trans ((HW.out.1.alloc HW.out.2 _).mono (by omega))⟩
    · go_wp2_with fail
      go_ret
      refine ⟨ret_int (chkN_yes (nums_yes HQ.out)), ?_⟩
      exact HB.out.trans (HW.out.1.mono (by omega))
end Go.Proofs.YtadojlmjapmbhaaDoor
end
