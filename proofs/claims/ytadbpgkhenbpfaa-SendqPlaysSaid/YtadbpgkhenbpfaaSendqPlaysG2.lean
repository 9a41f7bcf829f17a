/- Texts of this proof, one behind the other. -/
import Derived.Test.YtadbpgkhenbpfaaSendqPlaysG1
import Derived.WalkKit
import Derived.Lib.Hide
import Derived.WalkSpells
import Derived.WalkLawsBesides
import Derived.Test.YtadbpgkhenbpfaaProg
import Derived.Deep.QuietTactic
import Derived.BigQuiet
import Derived.Outline
import Derived.Lib.Strings
import Derived.Lib.Bytealg
import Derived.Lib.IndexLaws
import Derived.Lib.Walk
import Derived.RangeFuncNested
import Derived.RangeFuncBound
import Derived.RangeFuncCalls
import Derived.RangeFuncLeaves
import Derived.RangeFuncBox
import Derived.Shelf.Abstract
import Derived.Shelf.RegionOpen
import Derived.OwnWalkIn
import Derived.TacticsInMore
import Derived.LoopNIn
import Derived.LoopIn
import Derived.Maps.AppendAt
import Derived.Scope
import Derived.Sort.CutIn
import Derived.Stop.RegionWithIn
section
/- append, with the word that the block of what comes is that of the slice, or a new one. -/
namespace Go.Proofs.Ytadbpgkhenbpfaa
open Go Go.RowKit

theorem run_append_tie {P : Program} (w : World) (base : Nat) (t ty e : TypeId) (i : TypeInfo) (z : Value) (size bytes : Nat) (ht : P.underlying t = some (.slice e)) (hi : P.info? e = some i) (hz : i.zero = some z)
    (hsize : i.size = size) (hby : i.bytes = bytes) (v : Value) (n : Nat) (xs : List Value) (hown : w.ownsRow base e size v n xs)
    (a : Addr) (m c : Nat) (news : List Value) (hl : news.length = m * size) (hnews : ∀ j u, news[j]? = some u → w.cell? (a.add j) = some u) (h1 : ∀ u ∈ news, u.oneCell' = true)
    (h63 : n + m ≤ maxLen) (hbytes : (n + m) * bytes ≤ 140737488355328) {v' : Value} {w' : World} (hr' : (Builtin.append_ #[t, t] ty #[v, .slice (some a) m c]).run P w = .ok v' w') :
    ∀ k, v'.ownBlock = some k → v.ownBlock = some k ∨ w.heap.size ≤ k := by
  subst hsize
  subst hby
  have hsmall : n + m ≤ 9223372036854775807 := by simp only [maxLen] at h63; omega
  rcases hown.2 with ⟨rfl, rfl⟩ | ⟨g, cap, cur, rfl, hbg, hg, hnc, hcm, hcs, htake⟩
  · have hx : xs = [] := List.eq_nil_of_length_eq_zero (by simpa using hown.1)
    subst hx
    by_cases hm : m = 0
    · subst hm
      have hr : (Builtin.append_ #[t, t] ty #[.slice none 0 0, .slice (some a) 0 c]).run P w = .ok (.slice none 0 0) w := by
        simp [Builtin.append_, run_underlying ht, sizeOf, typeInfo, hi, Builtin.lenOf, Builtin.firstCells, loadCells, loadCellsFrom]
      rw [hr] at hr'
      cases hr'
      intro k hk; cases hk
    · have hr := run_append_nil (P := P) w t ty e i z ht hi hz a m c news hl hnews (by omega) (by omega) (by have hb := hbytes; simp only [Nat.zero_add] at hb; omega)
      rw [hr] at hr'
      cases hr'
      intro k hk; cases hk; exact .inr (Nat.le_refl _)
  · by_cases hroom : n + m ≤ cap
    · have hfit : n * i.size + news.length ≤ cur.size := by rw [hl, hcs, ← Nat.add_mul]; exact Nat.mul_le_mul_right _ hroom
      have hr := run_append_room (P := P) w t ty e i ht hi g n cap cur hg a m c news hl hnews h1 hroom hfit
      rw [hr] at hr'
      cases hr'
      intro k hk; exact .inl hk
    · have holds : ∀ j u, xs[j]? = some u → w.cell? ((⟨g, 0, none⟩ : Addr).add j) = some u := hown.cells (g := g) rfl
      have hr := run_append_grow (P := P) w t ty e i z ht hi hz ⟨g, 0, none⟩ n cap xs hown.1 holds a m c news hl hnews (by omega) (by omega) (growslice_fits (by omega) hbytes)
      rw [hr] at hr'
      cases hr'
      intro k hk; cases hk; exact .inr (Nat.le_refl _)

section
variable {P : Program} {W : World} {ops : Array Oper} {rest : List Oper} {o : Oper} {a : Act} {Q : Exit → Act → World → Prop}
/-- any slice behind a slice of the call's own -/
theorem wpList_app_t (hgd : o.guard = none) (s x : Operand) (t : TypeId)
    (ho : o.op = .call { callee := .builtin .append, args := #[s, x], argTypes := #[t, t] })
    (base : Nat) (e : TypeId) (i : TypeInfo) (z : Value) (size bytes : Nat) (ht : P.underlying t = some (.slice e)) (hi : P.info? e = some i) (hz : i.zero = some z)
    (hsize : i.size = size) (hby : i.bytes = bytes) (hzs : z.cells.size = size) (hsz : 0 < size)
    (v : Value) (n : Nat) (xs : List Value) (hs : a.eval s = v) (hown : W.ownsRow base e size v n xs)
    (ad : Addr) (m c : Nat) (news : List Value) (hx : a.eval x = .slice (some ad) m c) (hl : news.length = m * size) (hnews : ∀ j u, news[j]? = some u → W.cell? (ad.add j) = some u) (h1 : ∀ u ∈ news, u.oneCell' = true)
    (hn : n + m ≤ 1000000000) (hbs : bytes ≤ 1000) (hbase : base ≤ W.heap.size)
    (h : ∀ v' w', w'.ownsRow base e size v' (n + m) (xs ++ news) → Fr (fun k => v.ownBlock = some k) W w' → (∀ k, v'.ownBlock = some k → v.ownBlock = some k ∨ W.heap.size ≤ k) → wpList P ops Q rest (a.put o.dst v') w') :
    wpList P ops Q (o :: rest) a W := by
  have hnb : (n + m) * bytes ≤ 140737488355328 := Nat.le_trans (Nat.mul_le_mul hn hbs) (by decide)
  have h63 : n + m ≤ maxLen := by unfold maxLen; omega
  refine wpList_plain hgd fun _ hK => ?_
  obtain ⟨v', w', hr, h2, h3, h4⟩ := run_append_own (P := P) W base t o.type e i z size bytes ht hi hz hsize hby hzs hsz v n xs hown ad m c news hl hnews h1 h63 hnb hbase
  have htie := run_append_tie W base t o.type e i z size bytes ht hi hz hsize hby v n xs hown ad m c news hl hnews h1 h63 hnb hr
  unfold Oper.wp execOp
  simp only [ho, resolve, invoke, builtin, Sem.run_bind, Sem.run_pure, Result.andThen_ok, List.map_toArray, List.map_cons, List.map_nil, hs, hx, hr]
  exact hK _ _ (h v' w' h2 ((Fr.refl _ W).grown h3 fun k hk => .inr hk) htie)
theorem wpListIn_app_t {F : Fence} {fn : Nat} (hgd : o.guard = none) (s x : Operand) (t : TypeId)
    (ho : o.op = .call { callee := .builtin .append, args := #[s, x], argTypes := #[t, t] })
    (base : Nat) (e : TypeId) (i : TypeInfo) (z : Value) (size bytes : Nat) (ht : P.underlying t = some (.slice e)) (hi : P.info? e = some i) (hz : i.zero = some z)
    (hsize : i.size = size) (hby : i.bytes = bytes) (hzs : z.cells.size = size) (hsz : 0 < size)
    (v : Value) (n : Nat) (xs : List Value) (hs : a.eval s = v) (hown : W.ownsRow base e size v n xs)
    (ad : Addr) (m c : Nat) (news : List Value) (hx : a.eval x = .slice (some ad) m c) (hl : news.length = m * size) (hnews : ∀ j u, news[j]? = some u → W.cell? (ad.add j) = some u) (h1 : ∀ u ∈ news, u.oneCell' = true)
    (hn : n + m ≤ 1000000000) (hbs : bytes ≤ 1000) (hbase : base ≤ W.heap.size)
    (h : ∀ v' w', w'.ownsRow base e size v' (n + m) (xs ++ news) → Fr (fun k => v.ownBlock = some k) W w' → (∀ k, v'.ownBlock = some k → v.ownBlock = some k ∨ W.heap.size ≤ k) → wpListIn F fn P ops Q rest (a.put o.dst v') w') :
    wpListIn F fn P ops Q (o :: rest) a W := by
  have hnb : (n + m) * bytes ≤ 140737488355328 := Nat.le_trans (Nat.mul_le_mul hn hbs) (by decide)
  have h63 : n + m ≤ maxLen := by unfold maxLen; omega
  refine wpListIn_plain hgd fun K hK' => ?_
  obtain ⟨v', w', hr, h2, h3, h4⟩ := run_append_own (P := P) W base t o.type e i z size bytes ht hi hz hsize hby hzs hsz v n xs hown ad m c news hl hnews h1 h63 hnb hbase
  have htie := run_append_tie W base t o.type e i z size bytes ht hi hz hsize hby v n xs hown ad m c news hl hnews h1 h63 hnb hr
  unfold Oper.wpIn
  refine ⟨?_, ?_⟩
  · simp [Oper.about, ho, resolve, Target.leads, Sem.run_pure]
  · rw [Oper.semAt_plain F _ _ (by rw [ho]; intro c hc'; cases hc')]
    simp [execOp, ho, resolve, invoke, builtin, hs, hx, hr, Result.andThen]
    exact hK' _ _ (h v' w' h2 ((Fr.refl _ W).grown h3 fun k hk => .inr hk) htie)
/-- one element more, that lies in the newest block -/
theorem wpList_one_t (hgd : o.guard = none) (s x : Operand) (t : TypeId)
    (ho : o.op = .call { callee := .builtin .append, args := #[s, x], argTypes := #[t, t] })
    (base : Nat) (e : TypeId) (i : TypeInfo) (z : Value) (size bytes : Nat) (ht : P.underlying t = some (.slice e)) (hi : P.info? e = some i) (hz : i.zero = some z)
    (hsize : i.size = size) (hby : i.bytes = bytes) (hzs : z.cells.size = size) (hsz : 0 < size)
    (v : Value) (n : Nat) (xs : List Value) (hs : a.eval s = v) (hown : W.ownsRow base e size v n xs)
    (cs : Array Value) (N : Nat) (hx : a.eval x = .slice (some ⟨N, 0, none⟩) 1 1) (hN : W.heap.size = N) (hl : cs.size = size) (h1 : ∀ u ∈ cs.toList, u.oneCell' = true)
    (hn : n ≤ 900000000) (hbs : bytes ≤ 1000) (hbase : base ≤ W.heap.size)
    (h : ∀ v' w', w'.ownsRow base e size v' (n + 1) (xs ++ cs.toList) → Fr (fun k => v.ownBlock = some k) W w' → (∀ k, v'.ownBlock = some k → v.ownBlock = some k ∨ W.heap.size ≤ k) → wpList P ops Q rest (a.put o.dst v') w') :
    wpList P ops Q (o :: rest) a (W.alloc (.cells cs e)) := by
  subst hN
  refine wpList_app_t hgd s x t ho base e i z size bytes ht hi hz hsize hby hzs hsz v n xs hs (hown.alloc _) ⟨W.heap.size, 0, none⟩ 1 1 cs.toList hx (by simpa using hl) (cells_new W cs e) h1 (by omega) hbs (by simp; omega) fun v' w' h2 h3 h4 => ?_
  exact h v' w' h2 (((Fr.refl _ W).alloc _).trans3 h3 fun k _ e => e) fun k hk => (h4 k hk).imp id fun e => by simp at e; omega
theorem wpListIn_one_t {F : Fence} {fn : Nat} (hgd : o.guard = none) (s x : Operand) (t : TypeId)
    (ho : o.op = .call { callee := .builtin .append, args := #[s, x], argTypes := #[t, t] })
    (base : Nat) (e : TypeId) (i : TypeInfo) (z : Value) (size bytes : Nat) (ht : P.underlying t = some (.slice e)) (hi : P.info? e = some i) (hz : i.zero = some z)
    (hsize : i.size = size) (hby : i.bytes = bytes) (hzs : z.cells.size = size) (hsz : 0 < size)
    (v : Value) (n : Nat) (xs : List Value) (hs : a.eval s = v) (hown : W.ownsRow base e size v n xs)
    (cs : Array Value) (N : Nat) (hx : a.eval x = .slice (some ⟨N, 0, none⟩) 1 1) (hN : W.heap.size = N) (hl : cs.size = size) (h1 : ∀ u ∈ cs.toList, u.oneCell' = true)
    (hn : n ≤ 900000000) (hbs : bytes ≤ 1000) (hbase : base ≤ W.heap.size)
    (h : ∀ v' w', w'.ownsRow base e size v' (n + 1) (xs ++ cs.toList) → Fr (fun k => v.ownBlock = some k) W w' → (∀ k, v'.ownBlock = some k → v.ownBlock = some k ∨ W.heap.size ≤ k) → wpListIn F fn P ops Q rest (a.put o.dst v') w') :
    wpListIn F fn P ops Q (o :: rest) a (W.alloc (.cells cs e)) := by
  subst hN
  refine wpListIn_app_t hgd s x t ho base e i z size bytes ht hi hz hsize hby hzs hsz v n xs hs (hown.alloc _) ⟨W.heap.size, 0, none⟩ 1 1 cs.toList hx (by simpa using hl) (cells_new W cs e) h1 (by omega) hbs (by simp; omega) fun v' w' h2 h3 h4 => ?_
  exact h v' w' h2 (((Fr.refl _ W).alloc _).trans3 h3 fun k _ e => e) fun k hk => (h4 k hk).imp id fun e => by simp at e; omega
end
end Go.Proofs.Ytadbpgkhenbpfaa
end
section
/- append onto a slice of the call's own, nil or not, from whatever source (a text, a slice, nil), with the word of whose block it is. -/
namespace Go.Proofs.Ytadbpgkhenbpfaa
open Go Go.RowKit

theorem run_app_any {P : Program} (w : World) (base : Nat) (t tx ty e : TypeId) (i : TypeInfo) (z : Value) (size bytes : Nat) (ht : P.underlying t = some (.slice e)) (hi : P.info? e = some i) (hz : i.zero = some z)
    (hsize : i.size = size) (hby : i.bytes = bytes) (hzs : z.cells.size = size) (v : Value) (n : Nat) (xs : List Value)
    (hown : w.ownsRow base e size v n xs) (x : Value) (m : Nat) (news : List Value) (hs : Src P size tx x m news w)
    (h63 : n + m ≤ maxLen) (hbytes : (n + m) * bytes ≤ 140737488355328) (hbase : base ≤ w.heap.size) :
    ∃ v' w', (Builtin.append_ #[t, tx] ty #[v, x]).run P w = .ok v' w' ∧ w'.ownsRow base e size v' (n + m) (xs ++ news) ∧ Fr (fun k => v.ownBlock = some k) w w' ∧ (∀ k, v'.ownBlock = some k → v.ownBlock = some k ∨ w.heap.size ≤ k) := by
  subst hsize
  subst hby
  have hsmall : n + m ≤ 9223372036854775807 := by simp only [maxLen] at h63; omega
  have hlen : (xs ++ news).length = (n + m) * i.size := by rw [List.length_append, hown.1, hs.newsLen, Nat.add_mul]
  have hown' := hown
  have fresh : ∀ (old : Nat) (olds : List Value), olds = xs → ∀ X, Fr X w (w.drew.alloc (.cells ((olds ++ news).toArray ++ Builtin.zeroCells z.cells (grownCap w (n + m) old e - (n + m))) e)) ∧
      (w.drew.alloc (.cells ((olds ++ news).toArray ++ Builtin.zeroCells z.cells (grownCap w (n + m) old e - (n + m))) e)).ownsRow base e i.size (.slice (some ⟨w.heap.size, 0, none⟩) (n + m) (grownCap w (n + m) old e)) (n + m) (xs ++ news) := by
    rintro old olds rfl X
    refine ⟨((Fr.refl _ w).drew).alloc _, ⟨hlen, .inr ⟨w.heap.size, _, _, rfl, hbase, heap_alloc_new w.drew _, grownCap_ge w (n + m) old e, grownCap_le_maxLen w (n + m) old e h63, ?_, ?_⟩⟩⟩
    · simp only [Array.size_append, List.size_toArray, size_zeroCells, hzs, hlen, ← Nat.add_mul]
      have := grownCap_ge w (n + m) old e
      congr 1
      omega
    · simp only [Array.toList_append]
      rw [← hlen]
      exact List.take_left
  rcases hown.2 with ⟨rfl, rfl⟩ | ⟨g, cap, cur, rfl, hbg, hg, hnc, hcm, hcs, htake⟩
  · have hx : xs = [] := List.eq_nil_of_length_eq_zero (by simpa using hown.1)
    subst hx
    by_cases hm : m = 0
    · subst hm
      have hn0 : news = [] := List.eq_nil_of_length_eq_zero (by simpa using hs.newsLen)
      subst hn0
      have hr : (Builtin.append_ #[t, tx] ty #[.slice none 0 0, x]).run P w = .ok (.slice none 0 0) w := by
        have hl0 : ∀ w' : World, (Builtin.lenOf (.slice none 0 0)).run P w' = .ok 0 w' := fun _ => rfl
        rcases hs.kind with ⟨e', hk⟩ | hk <;> simp [Builtin.append_, run_underlying ht, run_underlying hk, sizeOf, typeInfo, hi, hl0, hs.len, hs.cells]
      exact ⟨_, _, hr, by simpa using hown', Fr.refl _ _, (fun k hk => .inl hk)⟩
    · have hr := run_append_grow_src (P := P) w t tx ty e i z ht hi hz none 0 0 [] (run_firstCells_none w.drew i.size 0 0 0) x m news hs (by omega) (by omega) (growslice_fits (by omega) hbytes)
      obtain ⟨f1, f2⟩ := fresh 0 [] rfl (fun k => (Value.slice none 0 0).ownBlock = some k)
      exact ⟨_, _, hr, f2, f1, fun k hk => by cases hk; exact .inr (Nat.le_refl _)⟩
  · by_cases hroom : n + m ≤ cap
    · have hfit : n * i.size + news.length ≤ cur.size := by rw [hs.newsLen, hcs, ← Nat.add_mul]; exact Nat.mul_le_mul_right _ hroom
      have hr := run_room_src (P := P) w t tx ty e i ht hi g n cap cur hg x m news hs hroom hfit
      refine ⟨_, _, hr, ⟨hlen, .inr ⟨g, cap, _, rfl, hbg, setRow_heap w g cur _ e _ hg, hroom, hcm, ?_, ?_⟩⟩, ⟨rfl, rfl, rfl, by simp, fun k _ hk => setRow_other w g k _ (fun e => hk (by simp [Value.ownBlock, e]))⟩, fun k hk => .inl hk⟩
      · simp only [List.size_toArray, List.length_append, List.length_take, List.length_drop, Array.length_toList]
        omega
      · rw [htake, ← hlen]
        exact List.take_left
    · have holds : ∀ j u, xs[j]? = some u → w.cell? ((⟨g, 0, none⟩ : Addr).add j) = some u := hown'.cells (g := g) rfl
      have hold := run_firstCells_some (P := P) w.drew i.size n ⟨g, 0, none⟩ n cap xs hown'.1 (by simpa using holds)
      have hr := run_append_grow_src (P := P) w t tx ty e i z ht hi hz (some ⟨g, 0, none⟩) n cap xs hold x m news hs (by omega) (by omega) (growslice_fits (by omega) hbytes)
      obtain ⟨f1, f2⟩ := fresh cap xs rfl (fun k => (Value.slice (some ⟨g, 0, none⟩) n cap).ownBlock = some k)
      exact ⟨_, _, hr, f2, f1, fun k hk => by cases hk; exact .inr (Nat.le_refl _)⟩
section
variable {P : Program} {w : World} {ops : Array Oper} {rest : List Oper} {o : Oper} {a : Act} {Q : Exit → Act → World → Prop}
theorem wpList_app_u (hgd : o.guard = none) (s x : Operand) (t tx : TypeId)
    (ho : o.op = .call { callee := .builtin .append, args := #[s, x], argTypes := #[t, tx] })
    (base : Nat) (e : TypeId) (i : TypeInfo) (z : Value) (size bytes : Nat) (h1 : P.underlying t = some (.slice e)) (h2 : P.info? e = some i) (h3 : i.zero = some z) (h4 : i.size = size) (h5 : i.bytes = bytes) (h6 : z.cells.size = size)
    (v : Value) (n : Nat) (xs : List Value) (hs : a.eval s = v) (hown : w.ownsRow base e size v n xs) (u : Value) (m : Nat) (news : List Value) (hx : a.eval x = u) (hsrc : Src P size tx u m news w)
    (b1 : n + m ≤ 1000000000) (b2 : bytes ≤ 1000) (b3 : base ≤ w.heap.size)
    (h : ∀ v' w', w'.ownsRow base e size v' (n + m) (xs ++ news) → Fr (fun k => v.ownBlock = some k) w w' → (∀ k, v'.ownBlock = some k → v.ownBlock = some k ∨ w.heap.size ≤ k) → wpList P ops Q rest (a.put o.dst v') w') : wpList P ops Q (o :: rest) a w := by
  refine wpList_plain hgd fun _ hK => ?_
  obtain ⟨v', w', hr, r1, r2, r3⟩ := run_app_any (P := P) w base t tx o.type e i z size bytes h1 h2 h3 h4 h5 h6 v n xs hown u m news hsrc (by unfold maxLen; omega) (Nat.le_trans (Nat.mul_le_mul b1 b2) (by decide)) b3
  unfold Oper.wp execOp
  simp only [ho, resolve, invoke, builtin, Sem.run_bind, Sem.run_pure, Result.andThen_ok, List.map_toArray, List.map_cons, List.map_nil, hs, hx, hr]
  exact hK _ _ (h v' w' r1 r2 r3)
theorem wpListIn_app_u {F : Fence} {fn : Nat} (hgd : o.guard = none) (s x : Operand) (t tx : TypeId)
    (ho : o.op = .call { callee := .builtin .append, args := #[s, x], argTypes := #[t, tx] })
    (base : Nat) (e : TypeId) (i : TypeInfo) (z : Value) (size bytes : Nat) (h1 : P.underlying t = some (.slice e)) (h2 : P.info? e = some i) (h3 : i.zero = some z) (h4 : i.size = size) (h5 : i.bytes = bytes) (h6 : z.cells.size = size)
    (v : Value) (n : Nat) (xs : List Value) (hs : a.eval s = v) (hown : w.ownsRow base e size v n xs) (u : Value) (m : Nat) (news : List Value) (hx : a.eval x = u) (hsrc : Src P size tx u m news w)
    (b1 : n + m ≤ 1000000000) (b2 : bytes ≤ 1000) (b3 : base ≤ w.heap.size)
    (h : ∀ v' w', w'.ownsRow base e size v' (n + m) (xs ++ news) → Fr (fun k => v.ownBlock = some k) w w' → (∀ k, v'.ownBlock = some k → v.ownBlock = some k ∨ w.heap.size ≤ k) → wpListIn F fn P ops Q rest (a.put o.dst v') w') : wpListIn F fn P ops Q (o :: rest) a w := by
  refine wpListIn_plain hgd fun K hK' => ?_
  obtain ⟨v', w', hr, r1, r2, r3⟩ := run_app_any (P := P) w base t tx o.type e i z size bytes h1 h2 h3 h4 h5 h6 v n xs hown u m news hsrc (by unfold maxLen; omega) (Nat.le_trans (Nat.mul_le_mul b1 b2) (by decide)) b3
  unfold Oper.wpIn
  refine ⟨?_, ?_⟩
  · simp [Oper.about, ho, resolve, Target.leads, Sem.run_pure]
  · rw [Oper.semAt_plain F _ _ (by rw [ho]; intro c hc'; cases hc')]
    simp [execOp, ho, resolve, invoke, builtin, hs, hx, hr, Result.andThen]
    exact hK' _ _ (h v' w' r1 r2 r3)
end
end Go.Proofs.Ytadbpgkhenbpfaa
end
section
/- fold.Byte, fold.turns, cmp.Compare of bytes and numbers: what each answers, for every argument. -/
namespace Go.Proofs.Ytadbpgkhenbpfaa
open Go.RowKit

/-- a byte, folded, as a number -/
def foldI (b : Int) : Int := if 65 ≤ b ∧ b ≤ 93 then b + 32 else if b = 126 then 94 else b
theorem foldI_up {b : Int} (h : 65 ≤ b) (h' : b ≤ 93) : foldI b = b + 32 := by rw [foldI, if_pos ⟨h, h'⟩]
theorem foldI_lo {b : Int} (h : b < 65) : foldI b = b := by rw [foldI, if_neg (by omega), if_neg (by omega)]
theorem foldI_hi {b : Int} (h : 93 < b) (h' : (b == 126) = false) : foldI b = b := by
  have := of_decide_eq_false h'
  rw [foldI, if_neg (by omega), if_neg (by omega)]
theorem foldI_bd (b : Int) (h0 : 0 ≤ b) (h1 : b ≤ 255) : 0 ≤ foldI b ∧ foldI b ≤ 255 := by
  unfold foldI; split
  · omega
  · split <;> omega





/-- what compares two numbers -/
def cmpI (a b : Int) : Int := if a < b then -1 else if b < a then 1 else 0
theorem cmpI_lt {a b : Int} (h : a < b) : cmpI a b = -1 := by rw [cmpI, if_pos h]
theorem cmpI_gt {a b : Int} (h : b < a) : cmpI a b = 1 := by rw [cmpI, if_neg (by omega), if_pos h]
theorem cmpI_eq {a b : Int} (h : a = b) : cmpI a b = 0 := by rw [cmpI, if_neg (by omega), if_neg (by omega)]
theorem cmpI_bd (a b : Int) : -1 ≤ cmpI a b ∧ cmpI a b ≤ 1 := by
  unfold cmpI; split
  · omega
  · split <;> omega




def foldB (b : UInt8) : UInt8 := if 65 ≤ b ∧ b ≤ 93 then b + 32 else if b = 126 then 94 else b
theorem foldB_nat (b : UInt8) : foldI (b.toNat : Int) = ((foldB b).toNat : Int) := by
  have hb := b.toNat_lt
  unfold foldB foldI
  by_cases h : 65 ≤ b ∧ b ≤ 93
  · rw [if_pos h]
    simp only [UInt8.le_iff_toNat_le] at h
    have e1 : (65 : UInt8).toNat = 65 := rfl
    have e2 : (93 : UInt8).toNat = 93 := rfl
    rw [e1, e2] at h
    rw [if_pos (by omega), UInt8.toNat_add]
    have e3 : (32 : UInt8).toNat = 32 := rfl
    omega
  · rw [if_neg h]
    simp only [UInt8.le_iff_toNat_le] at h
    have e1 : (65 : UInt8).toNat = 65 := rfl
    have e2 : (93 : UInt8).toNat = 93 := rfl
    rw [e1, e2] at h
    rw [if_neg (by omega)]
    by_cases h2 : b = 126
    · subst h2; rfl
    · rw [if_neg h2, if_neg]
      intro e
      apply h2
      apply UInt8.toNat_inj.mp
      have : (126 : UInt8).toNat = 126 := rfl
      omega

end Go.Proofs.Ytadbpgkhenbpfaa
end
section
/- valid.kindOf: what a byte is, where the rows of bytes lie as they are laid. -/
namespace Go.Proofs.Ytadbpgkhenbpfaa
open Go.RowKit

set_option maxRecDepth 100000 in
theorem idxByte0 (s : ByteArray) (c : Int) (w : World) :
    Calls Try.prog 34 #[.string s, .int .u8 c] w fun e w' => e = .returned (.int .i64 (Lib.indexByte s.data.toList c.toNat.toUInt8)) ∧ w = w' := by
  go_enter Try.func34, Try.ntmps34
  go_wp2
  rw [run_callFunc_extern Try.func40 (by kernel_rfl) (by kernel_rfl) (by kernel_rfl) (e := Extern.BytealgIndexByte.indexByte) (by kernel_rfl), Lib.run_indexByteString]
  simp only [Result.andThen]
  rw [Oper.upon_value]
  go_wp2
  go_ret
  exact ⟨rfl, rfl⟩
theorem idxByte (s : ByteArray) (c : Int) (w : World) :
    Calls Try.prog 31 #[.string s, .int .u8 c] w fun e w' => e = .returned (.int .i64 (Lib.indexByte s.data.toList c.toNat.toUInt8)) ∧ w = w' := by
  go_enter Try.func31, Try.ntmps31
  go_wp2_with (go_at_call 34; refine (idxByte0 _ _ _).mono ?_; rintro e w' ⟨rfl, rfl⟩)
  go_ret
  exact ⟨rfl, rfl⟩

/-- the rows of bytes, as they are laid -/
def laidRow (i : Nat) : List UInt8 := ([[65, 66, 67, 68, 69, 70, 71, 72, 73, 74, 75, 76, 77, 78, 79, 80, 81, 82, 83, 84, 85, 86, 87, 88, 89, 90, 97, 98, 99, 100, 101, 102, 103, 104, 105, 106, 107, 108, 109, 110, 111, 112, 113, 114, 115, 116, 117, 118, 119, 120, 121, 122], [48, 49, 50, 51, 52, 53, 54, 55, 56, 57], [91, 93, 92, 95, 94, 123, 124, 125, 96], [45], [46], [58], [44], [33, 64, 42, 63], [0, 13, 10], [7], [32]] : List (List UInt8)).getD i []


/-- what a byte is, by the first rows -/
def kAcc (b : UInt8) : Nat → Int
  | 0 => 0
  | k + 1 => if 0 ≤ Lib.indexByte (laidRow k) b then bits .or .i64 (kAcc b k) (2 ^ k) else kAcc b k

theorem kAcc_yes {b : UInt8} {k : Nat} (hk : k < 11) (h : 0 ≤ Lib.indexByte (laidRow k) b) : bits .or .i64 (kAcc b k) (wrap64 (2 ^ k)) = kAcc b (k + 1) := by
  have e : wrap64 (2 ^ k) = 2 ^ k := by
    rcases (by omega : k = 0 ∨ k = 1 ∨ k = 2 ∨ k = 3 ∨ k = 4 ∨ k = 5 ∨ k = 6 ∨ k = 7 ∨ k = 8 ∨ k = 9 ∨ k = 10) with rfl|rfl|rfl|rfl|rfl|rfl|rfl|rfl|rfl|rfl|rfl <;> decide +kernel
  rw [e, kAcc, if_pos h]
theorem kAcc_no {b : UInt8} {k : Nat} (h : Lib.indexByte (laidRow k) b < 0) : kAcc b k = kAcc b (k + 1) := by
  rw [kAcc, if_neg (by omega)]

end Go.Proofs.Ytadbpgkhenbpfaa
end
section
/- valid.sized, only, none, plain, and the answers' in, Letter, Digit, Sign: what each tells. -/
namespace Go.Proofs.Ytadbpgkhenbpfaa
open Go.RowKit

/-- all bytes of a text, with their places, are so -/
noncomputable def allI (s : ByteArray) (p : Nat → UInt8 → Bool) : Bool := @decide (∀ i (h : i < s.size), p i s[i] = true) (Classical.propDecidable _)
theorem allI_iff {s : ByteArray} {p : Nat → UInt8 → Bool} : allI s p = true ↔ ∀ i (h : i < s.size), p i s[i] = true := by
  unfold allI; exact @decide_eq_true_iff _ (Classical.propDecidable _)
theorem allI_no {s : ByteArray} {p : Nat → UInt8 → Bool} {k : Nat} (h : k < s.size) (hp : p k s[k] = false) : false = allI s p := by
  cases e : allI s p with
  | false => rfl
  | true => rw [allI_iff.1 e k h] at hp; cases hp
theorem allI_yes {s : ByteArray} {p : Nat → UInt8 → Bool} {k : Nat} (hk : s.size ≤ k) (h : ∀ i, i < k → ∀ (hi : i < s.size), p i s[i] = true) : true = allI s p :=
  (allI_iff.2 fun i hi => h i (by omega) hi).symm
theorem all_step {s : ByteArray} {p : Nat → UInt8 → Bool} {k : Nat} (h : ∀ i, i < k → ∀ (hi : i < s.size), p i s[i] = true) (hk : k < s.size) (hp : p k s[k] = true) :
    ∀ i, i < k + 1 → ∀ (hi : i < s.size), p i s[i] = true := by
  intro i h1 h2
  by_cases e : i = k
  · subst e; exact hp
  · exact h i (by omega) h2

/-- is a byte of one of some kinds? -/
def isK (kinds : Int) (b : UInt8) : Bool := !(bits .and .i64 (kAcc b 11) kinds == 0)





/-- can a byte be seen? -/
def seen (b : UInt8) : Bool := decide (33 ≤ b.toNat ∧ b.toNat ≤ 126)


def sizedB (n : Nat) (a b : Int) : Bool := decide (a ≤ n ∧ (n : Int) ≤ b)

def inB (l : List UInt8) (b : UInt8) : Bool := l.contains b
theorem at_mem (s : ByteArray) (k : Nat) (h : k < s.size) : s[k] ∈ s.data.toList := by
  have : s[k] = s.data.toList[k]'(by simpa using h) := rfl
  rw [this]; exact List.getElem_mem _
theorem mem_at {s : ByteArray} {b : UInt8} (h : b ∈ s.data.toList) : ∃ k, ∃ h : k < s.size, s[k] = b := by
  obtain ⟨k, hk, e⟩ := List.mem_iff_getElem.1 h
  exact ⟨k, by simpa using hk, e⟩
theorem inB_yes {s : ByteArray} {b : UInt8} {k : Nat} (h : k < s.size) (e : s[k] = b) : true = inB s.data.toList b := by
  unfold inB; symm; rw [List.contains_iff_mem, ← e]; exact at_mem s k h
theorem inB_no {s : ByteArray} {b : UInt8} {k : Nat} (hk : s.size ≤ k) (h : ∀ i, i < k → ∀ (hi : i < s.size), s[i] ≠ b) : false = inB s.data.toList b := by
  unfold inB; symm
  rw [Bool.eq_false_iff, ne_eq, List.contains_iff_mem]
  intro hm
  obtain ⟨i, hi, e⟩ := mem_at hm
  exact h i (by omega) hi e

set_option maxHeartbeats 1000000 in
theorem in_any (s : ByteArray) (b : UInt8) (w : World) (hs : s.size ≤ 1000000) :
    Calls Try.prog 28 #[.string s, .int .u8 ↑b.toNat] w fun e w' => e = .returned (.bool (inB s.data.toList b)) ∧ w = w' := by
  go_enter Try.func28, Try.ntmps28
  go_wp2_with fail
  go_loopw [5] (fun i wr => ∃ k : Nat, k ≤ s.size ∧ i = .int .i64 k ∧ (∀ i, i < k → ∀ (hi : i < s.size), s[i] ≠ b) ∧ wr = w) (fun i _ => s.size - (Go.RowKit.intOf i).toNat)
  case atStart => exact ⟨0, Nat.zero_le _, rfl, fun _ h => absurd h (Nat.not_lt_zero _), rfl⟩
  case round =>
    obtain ⟨k, hk, rfl, hq, rfl⟩ := hrel
    have Hq := Lib.hid hq
    clear hq
    by_cases hlt : k < s.size
    · by_cases hb : s[k] = b
      · have hb' : ((s[k].toNat : Int) == ↑b.toNat) = true := by rw [hb]; simp
        go_wp2_with fail
        go_ret
        exact ⟨ret_bool (inB_yes hlt hb), rfl⟩
      · have hb' : ((s[k].toNat : Int) == ↑b.toNat) = false := by
          rw [beq_eq_false_iff_ne]; intro e; exact hb (UInt8.toNat_inj.mp (by omega))
        go_wp2_with fail
        exact ⟨⟨k + 1, by omega, by push_cast; rfl, fun i h1 h2 => (by
          by_cases e : i = k
          · subst e; exact hb
          · exact Hq.out i (by omega) h2), by simp⟩, by simp only [Go.RowKit.intOf]; omega⟩
    · obtain rfl : k = s.size := by omega
      go_wp2_with fail
      go_ret
      exact ⟨ret_bool (inB_no (Nat.le_refl _) Hq.out), rfl⟩

def letterB (b : UInt8) : Bool := decide ((65 ≤ b.toNat ∧ b.toNat ≤ 90) ∨ (97 ≤ b.toNat ∧ b.toNat ≤ 122))
def digitB (b : UInt8) : Bool := decide (48 ≤ b.toNat ∧ b.toNat ≤ 57)
def signB (b : UInt8) : Bool := decide (b.toNat = 96) || inB [91, 93, 92, 95, 94, 123, 124, 125] b


end Go.Proofs.Ytadbpgkhenbpfaa
end
section
/- What the kinds of bytes are, byte by byte. -/
namespace Go.Proofs.Ytadbpgkhenbpfaa
open Go.RowKit

theorem all256 {p : UInt8 → Bool} (h : ((List.range 256).all fun n => p n.toUInt8) = true) (b : UInt8) : p b = true := by
  have := List.all_eq_true.1 h b.toNat (List.mem_range.2 b.toNat_lt)
  simpa using this
theorem isK5 (b : UInt8) : isK 5 b = (letterB b || signB b) := by
  have := all256 (p := fun b => isK 5 b == (letterB b || signB b)) (by kernel_rfl) b
  simpa using this
theorem isK15 (b : UInt8) : isK 15 b = (letterB b || signB b || digitB b || decide (b.toNat = 45)) := by
  have := all256 (p := fun b => isK 15 b == (letterB b || signB b || digitB b || decide (b.toNat = 45))) (by kernel_rfl) b
  simpa using this
/-- may a byte stand in a channel? -/
def chanB (b : UInt8) : Bool := !(decide (b.toNat = 0 ∨ b.toNat = 7 ∨ b.toNat = 10 ∨ b.toNat = 13 ∨ b.toNat = 32 ∨ b.toNat = 44 ∨ b.toNat = 58))
theorem isK1888 (b : UInt8) : isK 1888 b = !chanB b := by
  have := all256 (p := fun b => isK 1888 b == !chanB b) (by kernel_rfl) b
  simpa using this
theorem isK160 (b : UInt8) : isK 160 b = inB [33, 64, 42, 63, 58] b := by
  have := all256 (p := fun b => isK 160 b == inB [33, 64, 42, 63, 58] b) (by kernel_rfl) b
  simpa using this

end Go.Proofs.Ytadbpgkhenbpfaa
end
section
/- valid.Nick, Channel, User and the answers' ones: both tell the same of any text. -/
namespace Go.Proofs.Ytadbpgkhenbpfaa
open Go.RowKit

noncomputable def dec (p : Prop) : Bool := @decide p (Classical.propDecidable _)
theorem dec_iff {p : Prop} : dec p = true ↔ p := by unfold dec; exact @decide_eq_true_iff _ (Classical.propDecidable _)
theorem dec_yes {p : Prop} (h : p) : true = dec p := (dec_iff.2 h).symm
theorem dec_no {p : Prop} (h : ¬ p) : false = dec p := by
  cases e : dec p with
  | false => rfl
  | true => exact absurd (dec_iff.1 e) h
theorem dec_of {b : Bool} {p : Prop} (h : b = true ↔ p) : b = dec p := by
  rw [Bool.eq_iff_iff, h, dec_iff]




/-- may a byte stand so in a nickname? -/
def nickAt (i : Nat) (b : UInt8) : Bool := letterB b || signB b || (decide (i ≠ 0) && (digitB b || decide (b.toNat = 45)))
def NickP (s : ByteArray) : Prop := (1 ≤ s.size ∧ s.size ≤ 16) ∧ ∀ i (h : i < s.size), nickAt i s[i] = true
def ChanP (s : ByteArray) : Prop := (2 ≤ s.size ∧ s.size ≤ 50) ∧ (∃ h : 0 < s.size, s[0].toNat = 35) ∧ ∀ i (h : i < s.size), chanB s[i] = true
def UserP (s : ByteArray) : Prop := (1 ≤ s.size ∧ s.size ≤ 10) ∧ ∀ i (h : i < s.size), (seen s[i] && !inB [33, 64, 42, 63, 58] s[i]) = true

theorem extract_one (s : ByteArray) (h : 1 ≤ s.size) (p : Nat → UInt8 → Bool) : allI (s.extract 0 1) p = p 0 s[0] := by
  rw [Bool.eq_iff_iff, allI_iff]
  have hs : (s.extract 0 1).size = 1 := by simp [ByteArray.size_extract]; omega
  have e : ∀ i (hi : i < (s.extract 0 1).size), (s.extract 0 1)[i] = s[0] := by
    intro i hi
    obtain rfl : i = 0 := by omega
    simp [ByteArray.getElem_extract]
  constructor
  · intro hh; have := hh 0 (by omega); rwa [e] at this
  · intro hh i hi; rw [e]; obtain rfl : i = 0 := by omega
    exact hh











end Go.Proofs.Ytadbpgkhenbpfaa
end
section
/- valid.Host, Server, Key and the answers' ones: both tell the same of any text. -/
namespace Go.Proofs.Ytadbpgkhenbpfaa
set_option linter.unusedVariables false
set_option linter.unusedSimpArgs false
open Go.RowKit

theorem isK59 (b : UInt8) : isK 59 b = (letterB b || digitB b || decide (b.toNat = 46) || decide (b.toNat = 45) || decide (b.toNat = 58)) := by
  have := all256 (p := fun b => isK 59 b == (letterB b || digitB b || decide (b.toNat = 46) || decide (b.toNat = 45) || decide (b.toNat = 58))) (by kernel_rfl) b
  simpa using this
theorem isK32 (b : UInt8) : isK 32 b = decide (b.toNat = 58) := by
  have := all256 (p := fun b => isK 32 b == decide (b.toNat = 58)) (by kernel_rfl) b
  simpa using this
theorem isK16 (b : UInt8) : isK 16 b = decide (b.toNat = 46) := by
  have := all256 (p := fun b => isK 16 b == decide (b.toNat = 46)) (by kernel_rfl) b
  simpa using this
theorem isK1 (b : UInt8) : isK 1 b = letterB b := by
  have := all256 (p := fun b => isK 1 b == letterB b) (by kernel_rfl) b
  simpa using this
theorem isK64 (b : UInt8) : isK 64 b = decide (b.toNat = 44) := by
  have := all256 (p := fun b => isK 64 b == decide (b.toNat = 44)) (by kernel_rfl) b
  simpa using this

/-- may a byte stand so in a host? -/
def hostAt (i : Nat) (b : UInt8) : Bool := letterB b || digitB b || decide (b.toNat = 46) || decide (b.toNat = 45) || (decide (b.toNat = 58) && decide (i ≠ 0))
def HostP (s : ByteArray) : Prop := (1 ≤ s.size ∧ s.size ≤ 63) ∧ ∀ i (h : i < s.size), hostAt i s[i] = true
def ServP (s : ByteArray) : Prop := HostP s ∧ (∃ h : 0 < s.size, letterB s[0] = true) ∧ inB s.data.toList 46 = true ∧ inB s.data.toList 58 = false
def KeyP (s : ByteArray) : Prop := (1 ≤ s.size ∧ s.size ≤ 23) ∧ (∀ i (h : i < s.size), (seen s[i] && !decide (s[i].toNat = 44)) = true) ∧ ∃ h : 0 < s.size, s[0].toNat ≠ 58
theorem u8_eq {b : UInt8} {n : Nat} (hn : n < 256) : b.toNat = n ↔ b = n.toUInt8 := by
  constructor
  · intro h; rw [← h]; simp
  · intro h; rw [h]; simp; omega
theorem allI_noneB (s : ByteArray) (c : UInt8) : allI s (fun _ b => !decide (b.toNat = c.toNat)) = !inB s.data.toList c := by
  rw [Bool.eq_iff_iff, allI_iff]
  constructor
  · intro h
    rw [Bool.not_eq_true']
    symm
    exact inB_no (Nat.le_refl _) fun i _ hi e => by have := h i hi; rw [e] at this; simp at this
  · intro h i hi
    rw [Bool.not_eq_true'] at h
    by_cases e : s[i] = c
    · have := inB_yes hi e; rw [h] at this; cases this
    · simp; intro e2; exact e (UInt8.toNat_inj.mp e2)







end Go.Proofs.Ytadbpgkhenbpfaa
end
section
/- A labelled body inside a fence: the scope is gone through straight. -/
namespace Go.Proofs.Ytadbpgkhenbpfaa
open Go.RowKit Go.Shelf

theorem stepR_scope {P : Program} {b : Frame} {a : Act} {k : List Item} {cs : List Frame} {w : World} {c : Code} :
    step P (lone (b.atR a (.code (.scope c) :: k)) cs w) = .next (lone (b.atR a (.code c :: .inScope c :: k)) cs w) :=
  step_lone_go (by simp [stepG, stepG.exec, Frame.atR])
theorem stepR_inScope {P : Program} {b : Frame} {a : Act} {k : List Item} {cs : List Frame} {w : World} {c : Code} :
    step P (lone (b.atR a (.inScope c :: k)) cs w) = .next (lone (b.atR a k) cs w) :=
  step_lone_go (by simp [stepG, stepG.exec, Frame.atR])

theorem wpIn_scope {F : Fence} {n : Nat} {P : Program} {Q : Exit → Act → World → Prop} {a : Act} {w : World} {c : Code}
    (h : c.wpIn F n P (Exit.noGoto Q) a w) : (Code.scope c).wpIn F n P Q a w := by
  intro b k cs hro hb hr
  have h0 : (lone (b.atR a (.code (.scope c) :: k)) cs w).fenced P F := fenced_calm hb hr rfl
  obtain ⟨e, a₁, w₁, hq, harr⟩ := h b (.inScope c :: k) cs hro hb hr
  cases e with
  | normal => exact ⟨.normal, a₁, w₁, hq, .head h0 stepR_scope (StepsIn.trans harr (.one (fenced_calm hb hr rfl) stepR_inScope))⟩
  | exit id =>
    have hx : exitTo id (.inScope c :: k) = exitTo id k := by simp [exitTo]
    exact ⟨.exit id, a₁, w₁, hq, fun k' hk => .head h0 stepR_scope (harr.1 k' (by rw [hx]; exact hk)),
      fun hr' hk => let ⟨k₁, h1, h2⟩ := harr.2 hr' (by rw [hx]; exact hk); ⟨k₁, h1, .head h0 stepR_scope h2⟩⟩
  | goto l => exact hq.elim
  | ret => exact ⟨_, a₁, w₁, hq, .of_steps (.one h0 stepR_scope) harr⟩
  | panic ch => exact ⟨_, a₁, w₁, hq, .of_steps (.one h0 stepR_scope) harr⟩
  | outgrown => exact ⟨_, a₁, w₁, hq, .of_steps (.one h0 stepR_scope) harr⟩
theorem noGoto_normal (Q : Exit → Act → World → Prop) (a : Act) (w : World) : Exit.noGoto Q .normal a w = Q .normal a w := rfl
theorem noGoto_ret' (Q : Exit → Act → World → Prop) (a : Act) (w : World) : Exit.noGoto Q .ret a w = Q .ret a w := rfl
end Go.Proofs.Ytadbpgkhenbpfaa
end
section
/- fold.Compare: which of two texts stands ahead. -/
namespace Go.Proofs.Ytadbpgkhenbpfaa
open Go.RowKit

def foldL (l : List UInt8) : List UInt8 := l.map foldB
@[simp] theorem foldL_nil : foldL [] = [] := rfl
@[simp] theorem foldL_cons (x : UInt8) (l : List UInt8) : foldL (x :: l) = foldB x :: foldL l := rfl
@[simp] theorem foldL_length (l : List UInt8) : (foldL l).length = l.length := by simp [foldL]
@[simp] theorem foldL_append (a b : List UInt8) : foldL (a ++ b) = foldL a ++ foldL b := by simp [foldL]

/-- which of two rows of bytes stands ahead -/
def cmpL : List UInt8 → List UInt8 → Int
  | [], [] => 0
  | [], _ :: _ => -1
  | _ :: _, [] => 1
  | x :: xs, y :: ys => if x.toNat < y.toNat then -1 else if y.toNat < x.toNat then 1 else cmpL xs ys

theorem ba_drop (s : ByteArray) (k : Nat) (h : k < s.size) : s.data.toList.drop k = s[k] :: s.data.toList.drop (k + 1) := by
  rw [List.drop_eq_getElem_cons (by simpa using h)]; rfl
theorem ba_drop_end (s : ByteArray) (k : Nat) (h : s.size ≤ k) : s.data.toList.drop k = [] := by
  rw [List.drop_eq_nil_iff]; simpa using h
theorem ba_take (s : ByteArray) (k : Nat) (h : k < s.size) : s.data.toList.take (k + 1) = s.data.toList.take k ++ [s[k]] := by
  rw [List.take_succ_eq_append_getElem (by simpa using h)]; rfl
theorem ba_len (s : ByteArray) : s.data.toList.length = s.size := by simp

/-- two texts, folded, from a place on -/
def cmpAt (a b : ByteArray) (k : Nat) : Int := cmpL (foldL (a.data.toList.drop k)) (foldL (b.data.toList.drop k))
theorem cmpAt_stop {a b : ByteArray} {k : Nat} (ha : k < a.size) (hb : k < b.size) (h : cmpI ↑(foldB a[k]).toNat ↑(foldB b[k]).toNat ≠ 0) :
    cmpI ↑(foldB a[k]).toNat ↑(foldB b[k]).toNat = cmpAt a b k := by
  unfold cmpAt
  rw [ba_drop a k ha, ba_drop b k hb]
  simp only [foldL_cons, cmpL]
  unfold cmpI at *
  split
  · rw [if_pos (by omega)]
  · rename_i h1
    rw [if_neg h1] at h
    split
    · rw [if_neg (by omega), if_pos (by omega)]
    · rename_i h2; rw [if_neg h2] at h; exact absurd rfl h
theorem cmpAt_step {a b : ByteArray} {k : Nat} (ha : k < a.size) (hb : k < b.size) (h : cmpI ↑(foldB a[k]).toNat ↑(foldB b[k]).toNat = 0) :
    cmpAt a b (k + 1) = cmpAt a b k := by
  unfold cmpAt
  rw [ba_drop a k ha, ba_drop b k hb]
  simp only [foldL_cons, cmpL]
  unfold cmpI at h
  split at h
  · cases h
  · split at h
    · cases h
    · rw [if_neg (by omega), if_neg (by omega)]
theorem cmpAt_end {a b : ByteArray} {k : Nat} (h : k = a.size ∨ k = b.size) (ha : k ≤ a.size) (hb : k ≤ b.size) : cmpI ↑a.size ↑b.size = cmpAt a b k := by
  unfold cmpAt
  by_cases h1 : k < a.size
  · rw [ba_drop a k h1, ba_drop_end b k (by omega), cmpI_gt (by omega)]; rfl
  · rw [ba_drop_end a k (by omega)]
    by_cases h2 : k < b.size
    · rw [ba_drop b k h2, cmpI_lt (by omega)]; rfl
    · rw [ba_drop_end b k (by omega), cmpI_eq (by omega)]; rfl





/-- what compares two texts, folded -/
def cmpF (a b : List UInt8) : Int := cmpL (foldL a) (foldL b)
end Go.Proofs.Ytadbpgkhenbpfaa
end
section
/- fold.Same, fold.Prefix; the document's Byte. -/
namespace Go.Proofs.Ytadbpgkhenbpfaa
open Go.RowKit

theorem cmpL_zero : ∀ {a b : List UInt8}, cmpL a b = 0 ↔ a = b
  | [], [] => by simp [cmpL]
  | [], _ :: _ => by simp [cmpL]
  | _ :: _, [] => by simp [cmpL]
  | x :: xs, y :: ys => by
    simp only [cmpL, List.cons.injEq]
    by_cases h1 : x.toNat < y.toNat
    · rw [if_pos h1]; constructor
      · intro h; cases h
      · rintro ⟨rfl, _⟩; omega
    · rw [if_neg h1]
      by_cases h2 : y.toNat < x.toNat
      · rw [if_pos h2]; constructor
        · intro h; cases h
        · rintro ⟨rfl, _⟩; omega
      · rw [if_neg h2, cmpL_zero]
        have : x = y := UInt8.toNat_inj.mp (by omega)
        simp [this]

/-- are two texts alike? -/
def sameF (a b : List UInt8) : Bool := foldL a == foldL b
theorem sameF_iff {a b : List UInt8} : sameF a b = true ↔ foldL a = foldL b := by simp [sameF]
theorem sameF_len {a b : List UInt8} (h : a.length ≠ b.length) : sameF a b = false := by
  rw [Bool.eq_false_iff]; intro e
  rw [sameF_iff] at e
  have := congrArg List.length e
  simp at this; exact h this
theorem sameF_cmp (a b : List UInt8) : (cmpF a b == 0) = sameF a b := by
  rw [Bool.eq_iff_iff, sameF_iff, beq_iff_eq]; exact cmpL_zero

end Go.Proofs.Ytadbpgkhenbpfaa
end
section
/- fold.Prefix; the document's Byte. -/
namespace Go.Proofs.Ytadbpgkhenbpfaa
open Go.RowKit

theorem ba_extract0 (s : ByteArray) (n : Nat) : (s.extract 0 n).data.toList = s.data.toList.take n := by
  simp [ByteArray.data_extract]
theorem ba_extract_to (s : ByteArray) (n : Nat) : (s.extract n s.size).data.toList = s.data.toList.drop n := by
  simp only [ByteArray.data_extract, Array.toList_extract, List.extract_eq_take_drop]
  rw [List.take_of_length_le]; simp



def fromB : ByteArray := ⟨#[65, 66, 67, 68, 69, 70, 71, 72, 73, 74, 75, 76, 77, 78, 79, 80, 81, 82, 83, 84, 85, 86, 87, 88, 89, 90, 91, 93, 92, 126]⟩
def toB : ByteArray := ⟨#[97, 98, 99, 100, 101, 102, 103, 104, 105, 106, 107, 108, 109, 110, 111, 112, 113, 114, 115, 116, 117, 118, 119, 120, 121, 122, 123, 125, 124, 94]⟩
theorem from_found : ∀ k : Fin 30, foldB (fromB[k.1]'(k.2)) = toB[k.1]'(k.2) := by decide +kernel
theorem from_all : ∀ n : Fin 256, foldB (UInt8.ofNat n) = UInt8.ofNat n ∨ ∃ k : Fin 30, fromB[k.1]'(k.2) = UInt8.ofNat n := by decide +kernel
theorem from_none (b : UInt8) (h : ∀ k : Fin 30, fromB[k.1]'(k.2) ≠ b) : foldB b = b := by
  have := from_all ⟨b.toNat, b.toNat_lt⟩
  simp only [UInt8.ofNat_toNat] at this
  rcases this with h1 | ⟨k, hk⟩
  · exact h1
  · exact absurd hk (h k)

end Go.Proofs.Ytadbpgkhenbpfaa
end
section
/- fold.Runs: the pieces of a text, one by one, as a function that ranges. -/
namespace Go.Proofs.Ytadbpgkhenbpfaa
open Go.RowKit Go.Shelf
attribute [local go_sem] Oper.semAt_some

/-- a piece: its text, and whether its bytes are changed by folding -/
abbrev Piece := { x : ByteArray × Bool // x.1.size ≤ 1000000 }
abbrev encPiece (x : Piece) : Array Value := #[.string x.1.1, .bool x.1.2]
def tb (b : UInt8) : Bool := foldB b != b

def flat : List Piece → List UInt8
  | [] => []
  | x :: r => x.1.1.data.toList ++ flat r
theorem flat_snoc (l : List Piece) (x : Piece) : flat (l ++ [x]) = flat l ++ x.1.1.data.toList := by
  induction l with
  | nil => simp [flat]
  | cons y r ih => simp [flat, ih]
/-- is the next piece as it must be behind these: not empty, of one sort, of the other sort than the last one? -/
def okNext (pre : List Piece) (x : Piece) : Prop :=
  x.1.1.size ≠ 0 ∧ (∀ b ∈ x.1.1.data.toList, tb b = x.1.2) ∧ ∀ y, pre.getLast? = some y → x.1.2 ≠ y.1.2
/-- are pieces as they must be, each behind those ahead of it? -/
def okAll : List Piece → Prop
  | l => ∀ a x r, l = a ++ x :: r → okNext a x
theorem okAll_nil : okAll [] := by intro a x r h; simp at h
theorem okAll_snoc {l : List Piece} {x : Piece} : okAll (l ++ [x]) ↔ okAll l ∧ okNext l x := by
  constructor
  · intro h
    exact ⟨fun a y r e => h a y (r ++ [x]) (by rw [e]; simp), h l x [] rfl⟩
  · rintro ⟨h1, h2⟩ a y r e
    rcases List.eq_nil_or_concat r with rfl | ⟨r', z, rfl⟩
    · have : l ++ [x] = a ++ [y] := e
      obtain ⟨e1, e2⟩ := List.append_inj' this rfl
      simp at e2
      subst e1 e2; exact h2
    · have : l ++ [x] = (a ++ y :: r') ++ [z] := by rw [e]; simp
      obtain ⟨e1, e2⟩ := List.append_inj' this rfl
      exact h1 a y r' e1

/-- how far the pieces have come: what they are of, what is left -/
def RunsAt (l : List UInt8) (pre : List Piece) (rest : List UInt8) : Prop :=
  flat pre ++ rest = l ∧ okAll pre ∧ ∀ y b r, pre.getLast? = some y → rest = b :: r → tb b ≠ y.1.2

theorem flat_len {pre : List Piece} (h : okAll pre) : pre.length ≤ (flat pre).length := by
  induction pre using snoc_ind with
  | nil => simp
  | snoc l x ih =>
    rw [okAll_snoc] at h
    have := ih h.1
    have hx := h.2.1
    rw [flat_snoc]
    simp; omega

theorem runsAt_nil (l : List UInt8) : RunsAt l [] l := ⟨by simp [flat], okAll_nil, by intro y b r h; simp at h⟩

theorem RunsAt.snoc {l : List UInt8} {pre : List Piece} {p q : List UInt8} {t : Bool} (h : RunsAt l pre (p ++ q)) (hp : p ≠ [])
    (ht : ∀ b ∈ p, tb b = t) (hq : ∀ b r, q = b :: r → tb b ≠ t) (x : Piece) (hx : x.1 = (bs p, t)) : RunsAt l (pre ++ [x]) q := by
  obtain ⟨h1, h2, h3⟩ := h
  refine ⟨?_, okAll_snoc.2 ⟨h2, ?_⟩, ?_⟩
  · rw [flat_snoc, hx]; simpa using h1
  · refine ⟨?_, ?_, ?_⟩
    · rw [hx]; simp; exact hp
    · rw [hx]; simpa using ht
    · intro y hy
      rw [hx]
      obtain ⟨b, p', rfl⟩ := List.exists_cons_of_ne_nil hp
      have := h3 y b (p' ++ q) hy rfl
      rw [ht b (by simp)] at this
      exact this
  · intro y b r hy hr
    simp at hy
    subst hy
    rw [hx]
    exact hq b r hr

theorem RunsAt.bound {l : List UInt8} {pre : List Piece} {b : UInt8} {r : List UInt8} (h : RunsAt l pre (b :: r)) : pre.length < l.length := by
  have := flat_len h.2.1
  rw [← h.1]; simp; omega

theorem all_take (R : ByteArray) (t : Bool) (k : Nat) (hk : k ≤ R.size) (h : ∀ j (h : j < R.size), j < k → tb R[j] = t) : ∀ b ∈ R.data.toList.take k, tb b = t := by
  intro b hb
  obtain ⟨j, hj, rfl⟩ := List.mem_iff_getElem.1 hb
  simp only [List.length_take, ba_len] at hj
  rw [List.getElem_take]
  exact h j (by omega) (by omega)

theorem RunsAt.cut {l : List UInt8} {pre : List Piece} {R : ByteArray} (h : RunsAt l pre R.data.toList) (k : Nat) (hk : k < R.size) (t : Bool) (h0 : t = tb (R[0]'(by omega)))
    (ha : ∀ j (h : j < R.size), j < k → tb R[j] = t) (hn : tb R[k] ≠ t) (x : Piece) (hx : x.1 = (R.extract 0 k, t)) : RunsAt l (pre ++ [x]) (R.extract k R.size).data.toList := by
  have hk0 : k ≠ 0 := by rintro rfl; exact hn h0.symm
  rw [ba_extract_to]
  refine RunsAt.snoc (p := R.data.toList.take k) (t := t) (by rw [List.take_append_drop]; exact h) ?_ (all_take R t k (by omega) ha) ?_ x ?_
  · intro e
    have := congrArg List.length e
    rw [List.length_take, ba_len, List.length_nil] at this
    omega
  · intro b r e
    rw [ba_drop R k hk] at e
    cases e
    exact hn
  · rw [hx, ← ba_extract0]; rfl

theorem RunsAt.last {l : List UInt8} {pre : List Piece} {R : ByteArray} (h : RunsAt l pre R.data.toList) (hk : 0 < R.size) (t : Bool)
    (ha : ∀ j (h : j < R.size), j < R.size → tb R[j] = t) (x : Piece) (hx : x.1 = (R, t)) : RunsAt l (pre ++ [x]) [] := by
  refine RunsAt.snoc (p := R.data.toList) (t := t) (by rw [List.append_nil]; exact h) ?_ ?_ (by intro b r e; cases e) x (by rw [hx]; rfl)
  · intro e
    have := congrArg List.length e
    rw [ba_len, List.length_nil] at this
    omega
  · have := all_take R t R.size (Nat.le_refl _) ha
    rw [List.take_of_length_le (by rw [ba_len]; exact Nat.le_refl _)] at this
    exact this
end Go.Proofs.Ytadbpgkhenbpfaa
end
section
/- fold.Runs: the walk of its function that ranges. -/
namespace Go.Proofs.Ytadbpgkhenbpfaa
open Go.RowKit Go.Shelf
attribute [local go_sem] Oper.semAt_some



end Go.Proofs.Ytadbpgkhenbpfaa
end
section
/- fold.Text: what is folded. -/
namespace Go.Proofs.Ytadbpgkhenbpfaa
open Go.RowKit Go.Shelf
attribute [local go_sem] Oper.semAt_some

/-- bytes as cells -/
def u8s (l : List UInt8) : List Value := l.map fun b => Value.int .u8 b.toNat
theorem u8s_append (a b : List UInt8) : u8s (a ++ b) = u8s a ++ u8s b := by simp [u8s]
theorem u8s_bytes (s : ByteArray) : byteCells s = u8s s.data.toList := rfl

theorem u8s_step (a : List UInt8) (p : ByteArray) (k : Nat) (h : k < p.size) :
    u8s (a ++ (p.data.toList.map foldB).take (k + 1)) = u8s (a ++ (p.data.toList.map foldB).take k) ++ [.int .u8 (foldB p[k]).toNat] := by
  rw [← List.map_take, ba_take p k h, List.map_append, ← List.append_assoc, u8s_append, List.map_take]
  rfl

/-- what pieces are folded to -/
def tx (pre : List Piece) : List UInt8 := pre.flatMap fun x => if x.1.2 then x.1.1.data.toList.map foldB else x.1.1.data.toList
theorem tx_snoc (pre : List Piece) (x : Piece) : tx (pre ++ [x]) = tx pre ++ (if x.1.2 then x.1.1.data.toList.map foldB else x.1.1.data.toList) := by simp [tx]
theorem tx_len (pre : List Piece) : (tx pre).length ≤ pre.length * 1000000 := by
  induction pre using snoc_ind with
  | nil => simp [tx]
  | snoc l x ih =>
    rw [tx_snoc, List.length_append]
    have hx := x.2
    have e : (if x.1.2 then x.1.1.data.toList.map foldB else x.1.1.data.toList).length = x.1.1.size := by split <;> simp
    rw [e]
    simp only [List.length_append, List.length_cons, List.length_nil]
    omega
theorem tx_fold {pre : List Piece} (h : okAll pre) : tx pre = foldL (flat pre) := by
  induction pre using snoc_ind with
  | nil => rfl
  | snoc l x ih =>
    rw [okAll_snoc] at h
    rw [tx_snoc, flat_snoc, foldL_append, ih h.1]
    congr 1
    obtain ⟨_, hb, _⟩ := h.2
    cases hx : x.1.2 with
    | true => simp [foldL]
    | false =>
      rw [hx] at hb
      simp only [Bool.false_eq_true, if_false]
      unfold foldL
      have : ∀ l : List UInt8, (∀ b ∈ l, tb b = false) → l = l.map foldB := by
        intro l
        induction l with
        | nil => intro _; rfl
        | cons b r ih =>
          intro h
          have hb := h b (by simp)
          simp only [tb, bne_eq_false_iff_eq] at hb
          rw [List.map_cons, hb, ← ih fun c hc => h c (by simp [hc])]
      exact this _ hb

/-- 'out = append(out, ..)' onto a box's own row: what the walk owes. -/
theorem boxed_app {W w1 : World} {n₀ B : Nat} {t e : TypeId} {size g cap k m : Nat} {v' : Value} {xs ys : List Value} (hv : Boxed W B t (.slice (some ⟨g, 0, none⟩) k cap)) (hte : t ≠ e)
    (hrow : W.ownsRow n₀ e size (.slice (some ⟨g, 0, none⟩) k cap) k xs) (hn₀ : n₀ ≤ W.heap.size) (hB : n₀ ≤ B) (hown' : w1.ownsRow n₀ e size v' m ys) (hgrow : W.grownBy w1 (some g)) :
    Boxed w1 B t (.slice (some ⟨g, 0, none⟩) k cap) ∧ Boxed (w1.setCell ⟨B, 0, none⟩ v') B t v' ∧ (w1.setCell ⟨B, 0, none⟩ v').ownsRow n₀ e size v' m ys ∧ KeepsOthers W (w1.setCell ⟨B, 0, none⟩ v') ∧ Below n₀ W (w1.setCell ⟨B, 0, none⟩ v') := by
  have hv1 : Boxed w1 B t (.slice (some ⟨g, 0, none⟩) k cap) := hv.kept hgrow (hv.not_row hte hrow)
  rcases hrow.2 with ⟨h, _⟩ | ⟨g0, cap0, cur, h, hb, hgb, _⟩
  · cases h
  · simp only [Value.slice.injEq, Option.some.injEq, Addr.mk.injEq, true_and, and_true] at h
    obtain ⟨rfl, rfl⟩ := h
    refine ⟨hv1, hv1.set v', hown'.kept (grownBy_setCell' w1 B v') (.inr (hv1.not_row hte hown').symm), ?_, ?_⟩
    · refine (KeepsOthers.of_grownBy hgrow fun j o ej hj => ?_).trans (KeepsOthers.setCell _ _ _)
      cases ej
      rw [hgb] at hj; cases hj; rfl
    · refine ((Below.refl n₀ W).grown hgrow hn₀ fun j ej => ?_).setCell (p := ⟨B, 0, none⟩) hB v'
      cases ej
      exact hb

theorem conv_own {P : Program} (W : World) (src dst e : TypeId) (base g cap : Nat) (l : List UInt8) (hs : P.underlying src = some (.slice e)) (he : P.underlying e = some (.int .u8)) (hd : P.underlying dst = some .string)
    (h : W.ownsRow base e 1 (.slice (some ⟨g, 0, none⟩) l.length cap) l.length (u8s l)) :
    (convert src dst (.slice (some ⟨g, 0, none⟩) l.length cap)).run P W = .ok (.string (bs l)) W :=
  run_convert_bytes_back W src dst e ⟨g, 0, none⟩ cap l hs he hd fun j hj => h.cells (g := g) rfl j _ (by simp [u8s, hj])

theorem Try.infoU8 : (Try.prog.info? 5).map (fun i => (i.zero, i.size, i.bytes)) = some (some (.int .u8 0), 1, 1) := by kernel_rfl

end Go.Proofs.Ytadbpgkhenbpfaa
end
section
/- The document's Text, Same, Compare of layer 1; awake. -/
namespace Go.Proofs.Ytadbpgkhenbpfaa
open Go.RowKit

/-- 'string([]byte{b})' -/
theorem conv_one {P : Program} (W : World) (src dst e : TypeId) (b : UInt8) (hs : P.underlying src = some (.slice e)) (he : P.underlying e = some (.int .u8)) (hd : P.underlying dst = some .string) :
    (convert src dst (.slice (some ⟨W.heap.size, 0, none⟩) 1 1)).run P (W.alloc (.cells #[.int .u8 b.toNat] e)) = .ok (.string (bs [b])) (W.alloc (.cells #[.int .u8 b.toNat] e)) :=
  run_convert_bytes_back (W.alloc (.cells #[.int .u8 b.toNat] e)) src dst e ⟨W.heap.size, 0, none⟩ 1 [b] hs he hd fun j hj => by
    simp at hj
    subst hj
    simp [Addr.add]
theorem bs_append (a b : List UInt8) : bs a ++ bs b = bs (a ++ b) := by
  apply ba_ext
  simp [bs]
theorem foldL_step (s : ByteArray) (k : Nat) (h : k < s.size) : bs (foldL (s.data.toList.take k)) ++ bs [foldB s[k]] = bs (foldL (s.data.toList.take (k + 1))) := by
  rw [bs_append, ba_take s k h, foldL_append]; rfl



theorem bs_inj {a b : List UInt8} (h : bs a = bs b) : a = b := by
  have := congrArg (fun x : ByteArray => x.data.toList) h
  simpa using this
end Go.Proofs.Ytadbpgkhenbpfaa
end
section
/- The document's Same and Compare of layer 1. -/
namespace Go.Proofs.Ytadbpgkhenbpfaa
open Go.RowKit



theorem less_cmpL : ∀ (x y : List UInt8), Op.bytesLess x y = true ↔ cmpL x y = -1
  | [], [] => by simp [Op.bytesLess, cmpL]
  | [], _ :: _ => by simp [Op.bytesLess, cmpL]
  | _ :: _, [] => by simp [Op.bytesLess, cmpL]
  | a :: x, b :: y => by
    simp only [Op.bytesLess, cmpL, Bool.or_eq_true, decide_eq_true_eq, Bool.and_eq_true, beq_iff_eq, UInt8.lt_iff_toNat_lt]
    by_cases h1 : a.toNat < b.toNat
    · simp [h1]
    · rw [if_neg h1]
      by_cases h2 : b.toNat < a.toNat
      · rw [if_pos h2]
        constructor
        · rintro (h | ⟨rfl, _⟩) <;> omega
        · intro h; cases h
      · rw [if_neg h2, ← less_cmpL x y]
        have : a = b := UInt8.toNat_inj.mp (by omega)
        subst this
        simp
theorem cmpL_three : ∀ (x y : List UInt8), cmpL x y = -1 ∨ cmpL x y = 0 ∨ cmpL x y = 1
  | [], [] => by simp [cmpL]
  | [], _ :: _ => by simp [cmpL]
  | _ :: _, [] => by simp [cmpL]
  | a :: x, b :: y => by
    simp only [cmpL]
    split
    · simp
    · split
      · simp
      · exact cmpL_three x y
theorem cmpF_lt {a b : List UInt8} {x y : ByteArray} (hx : x = bs (foldL a)) (hy : y = bs (foldL b)) (h : Op.bytesLess x.toList y.toList = true) : cmpF a b = -1 := by
  subst hx hy
  rw [ByteArray.toList_eq, ByteArray.toList_eq] at h
  exact (less_cmpL _ _).1 h
theorem cmpF_eq {a b : List UInt8} {x y : ByteArray} (hx : x = bs (foldL a)) (hy : y = bs (foldL b)) (h : (!x.toList == y.toList) = false) : cmpF a b = 0 := by
  subst hx hy
  rw [beq_bs] at h
  simp at h
  exact cmpL_zero.2 h
theorem cmpF_gt {a b : List UInt8} {x y : ByteArray} (hx : x = bs (foldL a)) (hy : y = bs (foldL b)) (h : Op.bytesLess x.toList y.toList = false) (h2 : (!x.toList == y.toList) = true) : cmpF a b = 1 := by
  subst hx hy
  rw [ByteArray.toList_eq, ByteArray.toList_eq] at h
  rw [beq_bs] at h2
  simp at h2
  rcases cmpL_three (foldL a) (foldL b) with h3 | h3 | h3
  · have := (less_cmpL (foldL a) (foldL b)).2 h3
    rw [bs_toList, bs_toList] at h
    rw [h] at this; cases this
  · exact absurd (cmpL_zero.1 h3) h2
  · exact h3

end Go.Proofs.Ytadbpgkhenbpfaa
end
section
/- Masks, as mathematics: what a mask means; that row by row, and by going back to the last star alone, the same is found. -/
namespace Go.Proofs.Ytadbpgkhenbpfaa

/-- does a mask's byte that is no star mean a byte? -/
def mb (c b : UInt8) : Bool := c == 63 || foldB c == foldB b
/-- the ends of a text -/
def ends : List UInt8 → List (List UInt8)
  | [] => [[]]
  | b :: s => (b :: s) :: ends s
/-- does a mask mean a text? -/
def mm : List UInt8 → List UInt8 → Bool
  | [], s => s.isEmpty
  | c :: m, s => if c = 42 then (ends s).any (mm m) else match s with
    | [] => false
    | b :: t => mb c b && mm m t

theorem ends_any (p : List UInt8 → Bool) : ∀ s, (ends s).any p = true ↔ ∃ k, k ≤ s.length ∧ p (s.drop k) = true
  | [] => by simp [ends]
  | b :: s => by
    simp only [ends, List.any_cons, Bool.or_eq_true, ends_any p s, List.length_cons]
    constructor
    · rintro (h | ⟨k, hk, h⟩)
      · exact ⟨0, by omega, h⟩
      · exact ⟨k + 1, by omega, h⟩
    · rintro ⟨k, hk, h⟩
      cases k with
      | zero => exact .inl h
      | succ k => exact .inr ⟨k, by omega, h⟩
theorem mm_star (m s : List UInt8) : mm (42 :: m) s = true ↔ ∃ k, k ≤ s.length ∧ mm m (s.drop k) = true := by
  simp only [mm, if_true]; exact ends_any _ _
theorem mm_other {c : UInt8} (hc : c ≠ 42) (m s : List UInt8) : mm (c :: m) s = true ↔ ∃ b t, s = b :: t ∧ mb c b = true ∧ mm m t = true := by
  simp only [mm, if_neg hc]
  cases s with
  | nil => simp
  | cons b t =>
    simp only [Bool.and_eq_true, List.cons.injEq]
    constructor
    · intro h; exact ⟨b, t, ⟨rfl, rfl⟩, h⟩
    · rintro ⟨x, u, ⟨rfl, rfl⟩, h⟩; exact h

theorem mm_snoc_star : ∀ (m s : List UInt8), mm (m ++ [42]) s = true ↔ ∃ i, i ≤ s.length ∧ mm m (s.take i) = true
  | [], s => by
    rw [List.nil_append, mm_star]
    constructor
    · intro _; exact ⟨0, by omega, by simp [mm]⟩
    · intro _; exact ⟨s.length, by omega, by simp [mm]⟩
  | c :: m, s => by
    rw [List.cons_append]
    by_cases hc : c = 42
    · subst hc
      simp only [mm_star, mm_snoc_star m]
      constructor
      · rintro ⟨k, hk, i, hi, h⟩
        rw [List.length_drop] at hi
        refine ⟨k + i, by omega, k, by rw [List.length_take]; omega, ?_⟩
        rw [List.drop_take, Nat.add_sub_cancel_left]; exact h
      · rintro ⟨j, hj, k, hk, h⟩
        rw [List.length_take] at hk
        rw [List.drop_take] at h
        exact ⟨k, by omega, j - k, by rw [List.length_drop]; omega, h⟩
    · simp only [mm_other hc, mm_snoc_star m]
      constructor
      · rintro ⟨b, t, rfl, hb, i, hi, h⟩
        exact ⟨i + 1, by simp; omega, b, t.take i, by simp, hb, h⟩
      · rintro ⟨i, hi, b, t, e, hb, h⟩
        cases s with
        | nil => simp at e
        | cons x s =>
          cases i with
          | zero => simp at e
          | succ i =>
            simp only [List.take_succ_cons, List.cons.injEq] at e
            obtain ⟨rfl, rfl⟩ := e
            exact ⟨x, s, rfl, hb, i, by simp at hi; exact hi, h⟩

theorem mm_snoc_other {c : UInt8} (hc : c ≠ 42) : ∀ (m s : List UInt8), mm (m ++ [c]) s = true ↔ ∃ t b, s = t ++ [b] ∧ mm m t = true ∧ mb c b = true
  | [], s => by
    rw [List.nil_append, mm_other hc]
    constructor
    · rintro ⟨b, t, rfl, hb, h⟩
      have : t = [] := by simpa [mm] using h
      subst this
      exact ⟨[], b, rfl, by simp [mm], hb⟩
    · rintro ⟨t, b, rfl, h, hb⟩
      have : t = [] := by simpa [mm] using h
      subst this
      exact ⟨b, [], rfl, hb, by simp [mm]⟩
  | d :: m, s => by
    rw [List.cons_append]
    by_cases hd : d = 42
    · subst hd
      simp only [mm_star, mm_snoc_other hc m]
      constructor
      · rintro ⟨k, hk, t, b, e, h, hb⟩
        refine ⟨s.take k ++ t, b, ?_, ⟨k, ?_, ?_⟩, hb⟩
        · rw [List.append_assoc, ← e, List.take_append_drop]
        · simp; omega
        · rw [List.drop_append_of_le_length (by simp; omega)]
          rw [List.drop_of_length_le (by rw [List.length_take]; omega), List.nil_append]; exact h
      · rintro ⟨t, b, rfl, ⟨k, hk, h⟩, hb⟩
        exact ⟨k, by simp; omega, t.drop k, b, by rw [List.drop_append_of_le_length hk], h, hb⟩
    · simp only [mm_other hd, mm_snoc_other hc m]
      constructor
      · rintro ⟨x, u, rfl, hx, t, b, rfl, h, hb⟩
        exact ⟨x :: t, b, rfl, ⟨x, t, rfl, hx, h⟩, hb⟩
      · rintro ⟨t, b, rfl, ⟨x, u, rfl, hx, h⟩, hb⟩
        exact ⟨x, u ++ [b], rfl, hx, u, b, rfl, h, hb⟩

/-- row by row: which beginnings of the text do so many bytes of the mask mean? -/
def row (m s : List UInt8) (k i : Nat) : Bool := mm (m.take k) (s.take i)
theorem row_zero (m s : List UInt8) {i : Nat} (hi : i ≤ s.length) : row m s 0 i = (i == 0) := by
  unfold row
  rw [List.take_zero]
  simp only [mm]
  cases i with
  | zero => simp
  | succ i =>
    have : (s.take (i + 1)).length = i + 1 := by rw [List.length_take]; omega
    cases h : s.take (i + 1) with
    | nil => rw [h] at this; simp at this
    | cons a b => rfl
theorem row_star (m s : List UInt8) {k i : Nat} (hk : k < m.length) (hi : i ≤ s.length) (hc : m[k] = 42) : row m s (k + 1) i = (row m s k i || (decide (0 < i) && row m s (k + 1) (i - 1))) := by
  have e : m.take (k + 1) = m.take k ++ [42] := by rw [List.take_succ_eq_append_getElem hk, hc]
  rw [Bool.eq_iff_iff]
  simp only [row, e, Bool.or_eq_true, Bool.and_eq_true, decide_eq_true_eq, mm_snoc_star]
  constructor
  · rintro ⟨j, hj, h⟩
    rw [List.length_take] at hj
    rw [List.take_take, Nat.min_eq_left (by omega)] at h
    by_cases hji : j = i
    · subst hji; exact .inl h
    · exact .inr ⟨by omega, j, by rw [List.length_take]; omega, by rw [List.take_take, Nat.min_eq_left (by omega)]; exact h⟩
  · rintro (h | ⟨h0, j, hj, h⟩)
    · exact ⟨i, by rw [List.length_take]; omega, by rw [List.take_take, Nat.min_self]; exact h⟩
    · rw [List.length_take] at hj
      rw [List.take_take, Nat.min_eq_left (by omega)] at h
      exact ⟨j, by rw [List.length_take]; omega, by rw [List.take_take, Nat.min_eq_left (by omega)]; exact h⟩
theorem row_other (m s : List UInt8) {k i : Nat} (hk : k < m.length) (hi : i < s.length) (hc : m[k] ≠ 42) : row m s (k + 1) (i + 1) = (row m s k i && mb m[k] s[i]) := by
  have e : m.take (k + 1) = m.take k ++ [m[k]] := List.take_succ_eq_append_getElem hk
  have e2 : s.take (i + 1) = s.take i ++ [s[i]] := List.take_succ_eq_append_getElem hi
  rw [Bool.eq_iff_iff]
  simp only [row, e, e2, Bool.and_eq_true, mm_snoc_other hc]
  constructor
  · rintro ⟨t, b, h1, h2, h3⟩
    obtain ⟨rfl, h4⟩ := List.append_inj' h1 rfl
    simp at h4; subst h4
    exact ⟨h2, h3⟩
  · rintro ⟨h2, h3⟩
    exact ⟨_, _, rfl, h2, h3⟩
theorem row_other0 (m s : List UInt8) {k : Nat} (hk : k < m.length) (hc : m[k] ≠ 42) : row m s (k + 1) 0 = false := by
  have e : m.take (k + 1) = m.take k ++ [m[k]] := List.take_succ_eq_append_getElem hk
  rw [Bool.eq_false_iff]
  intro h
  simp only [row, e, mm_snoc_other hc] at h
  obtain ⟨t, b, h1, _⟩ := h
  simp at h1
theorem row_all (m s : List UInt8) : row m s m.length s.length = mm m s := by simp [row]

/-! going back to the last star alone -/
/-- from places on -/
def from' (m s : List UInt8) (a i : Nat) : Bool := mm (m.drop a) (s.drop i)
/-- somewhere from a place on -/
def some' (m s : List UInt8) (a i : Nat) : Prop := ∃ j, i ≤ j ∧ j ≤ s.length ∧ from' m s a j = true
theorem from_star {m s : List UInt8} {a i : Nat} (ha : a < m.length) (hc : m[a] = 42) (hi : i ≤ s.length) : from' m s a i = true ↔ some' m s (a + 1) i := by
  unfold from' some' from'
  rw [List.drop_eq_getElem_cons ha, hc, mm_star]
  constructor
  · rintro ⟨k, hk, h⟩
    rw [List.length_drop] at hk
    rw [List.drop_drop] at h
    exact ⟨i + k, by omega, by omega, h⟩
  · rintro ⟨j, h1, h2, h⟩
    refine ⟨j - i, by rw [List.length_drop]; omega, ?_⟩
    rw [List.drop_drop, show i + (j - i) = j by omega]; exact h
theorem from_step {m s : List UInt8} {a i : Nat} (ha : a < m.length) (hi : i < s.length) (hc : m[a] ≠ 42) : from' m s a i = (mb m[a] s[i] && from' m s (a + 1) (i + 1)) := by
  unfold from'
  rw [List.drop_eq_getElem_cons ha, List.drop_eq_getElem_cons hi, Bool.eq_iff_iff, mm_other hc, Bool.and_eq_true]
  constructor
  · rintro ⟨b, t, e, h1, h2⟩
    simp only [List.cons.injEq] at e
    obtain ⟨rfl, rfl⟩ := e
    exact ⟨h1, h2⟩
  · rintro ⟨h1, h2⟩
    exact ⟨_, _, rfl, h1, h2⟩
theorem from_out {m s : List UInt8} {a i : Nat} (ha : a = m.length) (hi : i < s.length) : from' m s a i = false := by
  unfold from'
  rw [List.drop_of_length_le (by omega), List.drop_eq_getElem_cons hi]
  rfl
/-- are all bytes stars? -/
def stars (l : List UInt8) : Bool := l.all fun c => c == 42
theorem from_end {m s : List UInt8} {a : Nat} : from' m s a s.length = stars (m.drop a) := by
  unfold from'
  rw [List.drop_of_length_le (Nat.le_refl _)]
  generalize m.drop a = l
  induction l with
  | nil => rfl
  | cons c l ih =>
    by_cases hc : c = 42
    · subst hc
      simp only [stars, List.all_cons] at *
      rw [← ih]
      simp [mm, ends]
    · simp [mm, hc, stars]

/-- a row of bytes that are no stars, each meaning one of the text's -/
def seg (m s : List UInt8) (a i n : Nat) : Prop := a + n ≤ m.length ∧ i + n ≤ s.length ∧ ∀ j, j < n → m.getD (a + j) 42 ≠ 42 ∧ mb (m.getD (a + j) 42) (s.getD (i + j) 0) = true
theorem seg_zero {m s : List UInt8} {a i : Nat} (ha : a ≤ m.length) (hi : i ≤ s.length) : seg m s a i 0 := ⟨ha, hi, fun j h => absurd h (Nat.not_lt_zero j)⟩
theorem getD_at (l : List UInt8) (k : Nat) (d : UInt8) (h : k < l.length) : l.getD k d = l[k] := by simp [h]
theorem seg_snoc {m s : List UInt8} {a i n : Nat} (h : seg m s a i n) (ha : a + n < m.length) (hi : i + n < s.length) (hc : m[a + n] ≠ 42) (hb : mb m[a + n] s[i + n] = true) : seg m s a i (n + 1) := by
  refine ⟨by omega, by omega, fun j hj => ?_⟩
  by_cases hjn : j = n
  · subst hjn
    rw [getD_at _ _ _ ha, getD_at _ _ _ hi]; exact ⟨hc, hb⟩
  · exact h.2.2 j (by omega)
theorem seg_from {m s : List UInt8} {a i : Nat} : ∀ {n : Nat}, seg m s a i n → from' m s a i = from' m s (a + n) (i + n)
  | 0, _ => rfl
  | n + 1, h => by
    obtain ⟨h1, h2, h3⟩ := h
    rw [seg_from (n := n) ⟨by omega, by omega, fun j hj => h3 j (by omega)⟩]
    obtain ⟨hc, hb⟩ := h3 n (by omega)
    rw [getD_at _ _ _ (by omega)] at hc hb
    rw [getD_at s _ _ (by omega)] at hb
    rw [from_step (by omega) (by omega) hc, hb]; rfl
/-- what begins with bytes that are no stars takes as many of the text -/
theorem seg_take {m s : List UInt8} {a i : Nat} : ∀ {n : Nat}, (a + n ≤ m.length) → (∀ j, j < n → m.getD (a + j) 42 ≠ 42) → i ≤ s.length → from' m s a i = true → i + n ≤ s.length ∧ from' m s (a + n) (i + n) = true
  | 0, _, _, hi, h => ⟨hi, h⟩
  | n + 1, h1, h3, hi, h => by
    obtain ⟨e1, e2⟩ := seg_take (n := n) (by omega) (fun j hj => h3 j (by omega)) hi h
    have hc := h3 n (by omega)
    rw [getD_at _ _ _ (by omega)] at hc
    by_cases hlt : i + n < s.length
    · rw [from_step (by omega) hlt hc, Bool.and_eq_true] at e2
      exact ⟨by omega, e2.2⟩
    · exfalso
      unfold from' at e2
      have f1 : s.drop (i + n) = [] := List.drop_of_length_le (by omega)
      have f2 : a + n < m.length := by omega
      rw [List.drop_eq_getElem_cons f2, f1, mm_other hc] at e2
      obtain ⟨_, _, e, _⟩ := e2
      cases e
theorem seg_star {m s : List UInt8} {a i n : Nat} (h : seg m s a i n) (ha : a + n < m.length) (hc : m[a + n] = 42) : some' m s a i ↔ some' m s (a + n + 1) (i + n) := by
  constructor
  · rintro ⟨j, h1, h2, h3⟩
    obtain ⟨e1, e2⟩ := seg_take h.1 (fun j hj => (h.2.2 j hj).1) h2 h3
    obtain ⟨j', f1, f2, f3⟩ := (from_star ha hc e1).1 e2
    exact ⟨j', by omega, f2, f3⟩
  · intro h4
    exact ⟨i, Nat.le_refl _, by have := h.2.1; omega, by rw [seg_from h]; exact (from_star ha hc h.2.1).2 h4⟩
theorem seg_miss {m s : List UInt8} {a i n : Nat} (h : seg m s a i n) (hm : from' m s (a + n) (i + n) = false) : some' m s a i ↔ some' m s a (i + 1) := by
  constructor
  · rintro ⟨j, h1, h2, h3⟩
    by_cases hji : j = i
    · subst hji
      rw [seg_from h, hm] at h3; cases h3
    · exact ⟨j, by omega, h2, h3⟩
  · rintro ⟨j, h1, h2, h3⟩
    exact ⟨j, by omega, h2, h3⟩
theorem seg_end {m s : List UInt8} {a i n : Nat} (h : seg m s a i n) (he : i + n = s.length) : some' m s a i ↔ stars (m.drop (a + n)) = true := by
  rw [← from_end (s := s), ← he]
  constructor
  · rintro ⟨j, h1, h2, h3⟩
    obtain ⟨e1, e2⟩ := seg_take h.1 (fun j hj => (h.2.2 j hj).1) h2 h3
    have : j = i := by omega
    subst this; exact e2
  · intro h4
    exact ⟨i, Nat.le_refl _, by omega, by rw [seg_from h]; exact h4⟩
end Go.Proofs.Ytadbpgkhenbpfaa
end
