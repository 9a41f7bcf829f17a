/- Layer 8: Drain. -/
import Derived.Test.YtadbpgkhenbpfaaSenB
import Derived.Deep.OwnRows
import Derived.Laws.CopyOwn
import Derived.Laws.CopyRow
namespace Go.Proofs.Ytadbpgkhenbpfaa
set_option linter.unusedVariables false
set_option linter.unusedSimpArgs false
open Go Go.RowKit Go.Lib Go.Sort Go.Shelf

/-- how many bytes go -/
def goesQ (s : QS) (n : Int) : Nat := (max 0 (min n (s.ws.length : Int))).toNat
def drainS (s : QS) (n : Int) : QS := if goesQ s n = 0 then s else { s with ws := s.ws.drop (goesQ s n), sent := s.sent + (goesQ s n : Int), parted := decide (s.ws[goesQ s n - 1]? ≠ some 10) }
def DrainP (base : Nat) (w : World) (q : Nat) (ob : Option Nat) (s : QS) (n : Int) (e : Ending) (w' : World) : Prop :=
  (∃ v', e = .returned v' ∧ OwnB w.heap.size w' v' (s.ws.take (goesQ s n))) ∧ QAt base w' q ob (drainS s n) ∧ Fr (fun k => k = q ∨ ob = some k) w w'
theorem goes_le (s : QS) (n : Int) : goesQ s n ≤ s.ws.length := by unfold goesQ; omega
theorem one_byte (xs : List UInt8) : ∀ u ∈ xs.map encB, u.oneCell' = true := fun u hu => by
  obtain ⟨_, _, rfl⟩ := List.mem_map.1 hu
  rfl
theorem last_byte (y : UInt8) : ((y.toNat : Int) != (((⟨#[13, 10]⟩ : ByteArray)[1]).toNat : Int)) = decide (some y ≠ some 10) := by
  have h : (((⟨#[13, 10]⟩ : ByteArray)[1]).toNat : Int) = 10 := by decide
  rw [h, Bool.eq_iff_iff]
  simp only [bne_iff_ne, ne_eq, Option.some.injEq, decide_not, Bool.not_eq_true', decide_eq_false_iff_not]
  constructor
  · intro e e2
    subst e2
    exact e rfl
  · intro e e2
    exact e (UInt8.toNat_inj.1 (by simpa using (by omega : y.toNat = 10)))
set_option maxRecDepth 100000 in
set_option maxHeartbeats 4000000 in
theorem q_drain {base : Nat} {w : World} {q : Nat} {ob : Option Nat} {s : QS} (h : QAt base w q ob s) (hl : s.ws.length ≤ 1000000) (hs0 : 0 ≤ s.sent) (hs1 : s.sent ≤ 1000000000000) (n : Int) :
    Calls Try.prog 9 #[.pointer (some ⟨q, 0, none⟩), .int .i64 n] w (DrainP base w q ob s n) := by
  have hge := goes_le s n
  have hgo : max 0 (min n (s.ws.length : Int)) = (goesQ s n : Int) := by unfold goesQ; omega
  obtain ⟨k, hk⟩ : ∃ k, goesQ s n = k := ⟨_, rfl⟩
  rw [hk] at hge hgo
  have HK := Lib.hid hk
  have HL := Lib.hid (q_len h)
  have HH := Lib.hid h
  clear hk h
  by_cases h0 : k = 0
  · subst h0
    go_enter Try.func9, Try.ntmps9
    go_wp2_with fail
    refine HL.out.mono ?_
    rintro e w' ⟨rfl, rfl⟩
    go_wp2
    go_ret
    have h1 : drainS s n = s := by unfold drainS; rw [HK.out]; rfl
    refine ⟨⟨_, rfl, ?_⟩, by rw [h1]; exact HH.out, Fr.refl _ _⟩
    rw [HK.out]; exact ownB_nil _ _
  · obtain ⟨v, h1, ho, h3, h4⟩ := HH.out
    obtain ⟨A, c, rfl⟩ := row_slice h3
    obtain ⟨i0, hi, hz0, hz1, hz2⟩ := info_parts Try.infoB
    obtain ⟨most, ws, sent, parted, over⟩ := s
    dsimp only at hl hs0 hs1 hge hgo h1 h3
    have hk0 : ((k : Int) == 0) = false := by simpa using h0
    have H := Lib.hid (And.intro h1 (And.intro ho (And.intro h3 h4)))
    clear h1 ho h3 h4
    go_enter Try.func9, Try.ntmps9
    go_wp2_with fail
    refine HL.out.mono ?_
    rintro e w' ⟨rfl, rfl⟩
    go_wp2_with (at_make; refine Hid.out ?_)
    refine Lib.hid ?_
    refine wpList_make_row _ rfl _ _ 34 rfl 5 i0 (.int .u8 0) Try.underlying34 hi hz0 hz1 rfl .i64 .i64 k rfl rfl (by rw [hz2]; omega) (by omega) ?_
    obtain ⟨h1, ho, h3, h4⟩ := H.out
    obtain ⟨cur, hcur⟩ : ∃ cur, madeCells #[Value.int IntKind.u8 0] k = cur := ⟨_, rfl⟩
    have hcz : cur.size = k := by rw [← hcur, size_madeCells]
    rw [hcur]
    obtain ⟨W1, hW1⟩ : ∃ W1, w'.alloc (.cells cur 5) = W1 := ⟨_, rfl⟩
    have f1 : Fr (fun _ => False) w' W1 := by rw [← hW1]; exact (Fr.refl _ _).alloc _
    have kn : W1.heap[w'.heap.size]? = some (.cells cur 5 (0, 0)) := by rw [← hW1]; exact heap_alloc_new _ _
    have hz1' : W1.heap.size = w'.heap.size + 1 := by rw [← hW1]; simp
    have k1 := f1.blk h1 fun e => e
    have o1 : OwnB base W1 (.slice A ws.length c) ws := ownB_kept h3 fun g hg => f1.block g (h3.lt g hg).2 fun e => e
    rw [hW1]
    have c1 := blk_cell k1 1
    have H1 := Lib.hid (And.intro f1 (And.intro kn (And.intro hz1' (And.intro k1 (And.intro o1 hcz)))))
    clear h1 ho h3 h4 hcur hW1 f1 kn hz1' k1 o1 hcz
    have hws : ¬ ws = [] := fun e => by subst e; simp at hge; omega
    have hA : ∃ g, A = some ⟨g, 0, none⟩ := by
      rcases H1.out.2.2.2.2.1.2 with ⟨e, e2⟩ | ⟨g, cap, cur, e, _⟩
      · exact absurd (List.length_eq_zero_iff.1 e2) hws
      · cases e; exact ⟨g, rfl⟩
    obtain ⟨g, rfl⟩ := hA
    obtain ⟨f1, kn, hz1', k1, o1, hcz⟩ := H1.out
    have hcsl : ((ws.take k).map encB).length = k := by rw [List.length_map, List.length_take]; omega
    have hcp := run_copy_row (P := Try.prog) W1 34 34 3 5 w'.heap.size 0 k k ⟨g, 0, none⟩ ws.length c cur 5 ((ws.take k).map encB) Try.underlying34 (by rw [hi]; simp [hz1]) kn
      (by rw [hcsl]; exact (Nat.min_eq_right hge).symm) (fun j u hu => by
        rw [List.getElem?_map, Option.map_eq_some_iff] at hu
        obtain ⟨y, hy, rfl⟩ := hu
        obtain ⟨hj, rfl⟩ := List.getElem?_eq_some_iff.1 hy
        rw [List.length_take] at hj
        rw [add_at, Nat.zero_add, List.getElem_take]
        exact ownB_cell o1 (by omega)) (by rw [hcsl]; omega) (one_byte _)
    rw [hcsl] at hcp
    obtain ⟨cells, hcells⟩ : ∃ cells : Array Value, (cur.toList.take 0 ++ (ws.take k).map encB ++ cur.toList.drop (0 + k)).toArray = cells := ⟨_, rfl⟩
    rw [hcells] at hcp
    obtain ⟨W2, hW2⟩ : ∃ W2, W1.setRow w'.heap.size cells = W2 := ⟨_, rfl⟩
    rw [hW2] at hcp
    have hcl2 : cells.toList = (ws.take k).map encB := by
      rw [← hcells]
      have : cur.toList.drop (0 + k) = [] := List.drop_of_length_le (by rw [Array.length_toList]; omega)
      rw [this]; simp
    have hcs2 : cells.size = k := by rw [← Array.length_toList, hcl2, hcsl]
    have kn2 : W2.heap[w'.heap.size]? = some (.cells cells 5 (0, 0)) := by rw [← hW2]; exact setRow_heap W1 _ _ _ _ _ kn
    have f2 : Fr (fun j => j = w'.heap.size) W1 W2 := by
      rw [← hW2]
      exact ⟨rfl, rfl, rfl, by simp, fun j _ hj => setRow_other W1 _ j _ fun e => hj (by omega)⟩
    have hql := blk_lt (H.out.1)
    have k2 := f2.blk k1 (by omega)
    have o2 : OwnB base W2 (.slice (some ⟨g, 0, none⟩) ws.length c) ws := ownB_kept o1 fun j hj => f2.block j (o1.lt j hj).2 fun e => by have := ((H.out.2.2.1).lt j hj).2; omega
    have ev : OwnB w'.heap.size W2 (.slice (some ⟨w'.heap.size, 0, none⟩) k k) (ws.take k) :=
      ⟨by simp, .inr ⟨w'.heap.size, k, cells, by rw [List.length_take, Nat.min_eq_left hge], Nat.le_refl _, kn2, by rw [List.length_take]; omega, by unfold maxLen; omega, by rw [hcs2]; omega, by rw [List.length_take, Nat.mul_one, Nat.min_eq_left hge, hcl2, List.take_of_length_le (by rw [hcsl]; exact Nat.le_refl _)]⟩⟩
    have d1 := blk_cell k2 1
    have hD := deleteB o2 hl k hge (by omega)
    have HD := Lib.hid hD
    have H2 := Lib.hid (And.intro f1 (And.intro f2 (And.intro k2 (And.intro o2 (And.intro ev (And.intro hz1' hql))))))
    clear hcsl hcells hW2 hcl2 hcs2 kn2 f2 k2 o2 ev hD f1 kn hz1' k1 o1 hcz hql hws
    go_wp2_with fail
    refine HD.out.mono ?_
    rintro e W3 ⟨⟨v3, rfl, o3, t3⟩, f3⟩
    obtain ⟨f1, f2, k2, o2, ev, hz1', hql⟩ := H2.out
    obtain ⟨h1, ho, h3, h4⟩ := H.out
    obtain ⟨ds, hds⟩ : ∃ ds, ws.drop k = ds := ⟨_, rfl⟩
    rw [hds] at o3
    obtain ⟨A3, c3, ev3⟩ := row_slice o3
    subst ev3
    have hgl := (h3.lt g rfl).2
    have hgq : g ≠ q := fun e => h4 (ho ▸ (by rw [e]; rfl))
    have hnv : ∀ j, vB (.slice (some ⟨g, 0, none⟩) ws.length c) j → j = g := fun j hj => by cases hj; rfl
    have k3 := f3.blk k2 fun e => hgq (hnv q e).symm
    have ev3 : OwnB w'.heap.size W3 (.slice (some ⟨w'.heap.size, 0, none⟩) k k) (ws.take k) := ownB_kept ev fun j hj => f3.block j (ev.lt j hj).2 fun e => by have := hnv j e; have := (ev.lt j hj).1; omega
    have hvq : (Value.slice A3 ds.length c3).ownBlock ≠ some q := by rw [t3]; exact fun e => hgq (by cases e; rfl)
    have k4 := blk_set k3 1 (.slice A3 ds.length c3)
    have k5 := blk_set k4 2 (.int .i64 (sent + k))
    have o4 : OwnB base ((W3.setCell ⟨q, 1, none⟩ (.slice A3 ds.length c3)).setCell ⟨q, 2, none⟩ (.int .i64 (sent + k))) (.slice A3 ds.length c3) ds :=
      ownB_kept o3 fun j hj => (heap_setCell_other _ _ j _ fun e => by cases e; exact hvq hj).trans (heap_setCell_other _ _ j _ fun e => by cases e; exact hvq hj)
    have ev5 : OwnB w'.heap.size ((W3.setCell ⟨q, 1, none⟩ (.slice A3 ds.length c3)).setCell ⟨q, 2, none⟩ (.int .i64 (sent + k))) (.slice (some ⟨w'.heap.size, 0, none⟩) k k) (ws.take k) :=
      ownB_kept ev3 fun j hj => (heap_setCell_other _ _ j _ fun e => by have := (ev3.lt j hj).1; have e2 : j = q := e; omega).trans (heap_setCell_other _ _ j _ fun e => by have := (ev3.lt j hj).1; have e2 : j = q := e; omega)
    have f5 : Fr (fun j => j = q ∨ ob = some j) w' ((W3.setCell ⟨q, 1, none⟩ (.slice A3 ds.length c3)).setCell ⟨q, 2, none⟩ (.int .i64 (sent + k))) := by
      have a1 : Fr (fun j => j = q ∨ ob = some j) w' W1 := f1.mono fun _ _ e => e.elim
      have a2 := a1.trans3 f2 fun j hj e => by omega
      have a3 := a2.trans3 f3 fun j hj e => .inr (by rw [← ho, hnv j e]; rfl)
      exact (a3.setCell ⟨q, 1, none⟩ (.inl rfl) _).setCell ⟨q, 2, none⟩ (.inl rfl) _
    have d1 := blk_cell k3 1
    have g1 := blk_free k3 1
    have d2 := blk_cell k3 2
    have g2 := blk_free k3 2
    have H5 := Lib.hid (And.intro k5 (And.intro o4 (And.intro ev5 (And.intro f5 (And.intro hds (And.intro hvq (And.intro t3 hgq)))))))
    clear f1 f2 k2 o2 ev hz1' hql h1 ho h3 h4 hds o3 t3 f3 hgq hnv k3 ev3 hvq k4 k5 o4 ev5 f5 hcp hgl
    go_wp2_with fail
    obtain ⟨k5, o4, ev5, f5, hds, hvq, t3, hgq⟩ := H5.out
    obtain ⟨W5, hW5⟩ : ∃ W5, (W3.setCell ⟨q, 1, none⟩ (.slice A3 ds.length c3)).setCell ⟨q, 2, none⟩ (.int .i64 (sent + k)) = W5 := ⟨_, rfl⟩
    rw [hW5] at k5 o4 ev5 f5 ⊢
    have hkt : k - 1 < (ws.take k).length := by rw [List.length_take]; omega
    have e0 := ownB_cell ev5 hkt
    obtain ⟨y, hy⟩ : ∃ y, (ws.take k)[k - 1] = y := ⟨_, rfl⟩
    have hyw : ws[k - 1]? = some y := by rw [← hy, List.getElem_take, List.getElem?_eq_getElem]
    rw [hy] at e0
    unfold encB at e0
    have e3 := blk_cell k5 3
    have g3 := blk_free k5 3
    obtain ⟨d, hd⟩ : ∃ d, ((y.toNat : Int) != 10) = d := ⟨_, rfl⟩
    have hw1 : IntKind.i64.wrap ((k : Int) - 1) = (k : Int) - 1 := IntWalk.i64_in _ (by omega)
    have hw2 : 0 ≤ (k : Int) - 1 := by omega
    have hw3 : ((k : Int) - 1).toNat = k - 1 := by omega
    have hw4 : (k : Int) - 1 < (k : Int) := by omega
    have hw5 : k - 1 < k := by omega
    have H6 := Lib.hid (And.intro k5 (And.intro o4 (And.intro ev5 (And.intro f5 (And.intro hds (And.intro hvq (And.intro t3 hyw)))))))
    clear k5 o4 ev5 f5 hds hvq t3 hgq hW5 hkt hy hyw d1 g1 d2 g2
    go_region
    clear hw1 hw2 hw3 hw4 hw5 hd e0 e3 g3
    go_wp2_with fail
    go_ret
    obtain ⟨k5, o4, ev5, f5, hds, hvq, t3, hyw⟩ := H6.out
    have hval : ((y.toNat : Int) != (((⟨#[13, 10]⟩ : ByteArray)[1]).toNat : Int)) = decide (ws[k - 1]? ≠ some 10) := by rw [hyw]; exact last_byte y
    have h1 : drainS ⟨most, ws, sent, parted, over⟩ n = ⟨most, ds, sent + k, decide (ws[k - 1]? ≠ some 10), over⟩ := by
      unfold drainS; rw [HK.out, if_neg h0]; simp only [hds]
    rw [hval]
    obtain ⟨d2, hd2⟩ : ∃ d2, decide (ws[k - 1]? ≠ some 10) = d2 := ⟨_, rfl⟩
    rw [hd2] at h1 ⊢
    have hne : ∀ j, (Value.slice (some ⟨w'.heap.size, 0, none⟩) k k).ownBlock = some j → j ≠ q := fun j hj e => by
      have := (ev5.lt j hj).1
      have := blk_lt H.out.1
      omega
    obtain ⟨h1', ho, h3, h4⟩ := H.out
    refine ⟨⟨_, rfl, ?_⟩, ?_, (f5.setCell ⟨q, 3, none⟩ (.inl rfl) _).drew⟩
    · rw [HK.out]
      exact ownB_kept ev5 fun j hj => heap_setCell_other _ _ j _ (hne j hj)
    · rw [h1]
      exact ⟨_, blk_drew (blk_set k5 3 _), t3.trans ho, ownB_kept o4 fun j hj => heap_setCell_other _ _ j _ fun e => by have e2 : j = q := e; exact hvq (e2 ▸ hj), h4⟩
end Go.Proofs.Ytadbpgkhenbpfaa
