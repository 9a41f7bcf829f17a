/- Layer 12: the table of capabilities, as it is laid. -/
import Derived.Test.YtadojlmjapmbhaaDoorRows
import Derived.Test.YtadojlmjapmbhaaDoorCapF
import Derived.ProofKit
import Derived.OpenShut
import Derived.LaidMore
import Derived.Lay
namespace Go.Proofs.YtadojlmjapmbhaaDoor
open Go.ChangeShapes Go.WideShapes Go.ChangeAt Go.RowKit

theorem two_of {α : Type} {l : List α} (h : l.length = 2) : ∃ a b, l = [a, b] := by
  match l, h with
  | [a, b], _ => exact ⟨a, b, rfl⟩
theorem three_of {α : Type} {l : List α} (h : l.length = 3) : ∃ a b c, l = [a, b, c] := by
  match l, h with
  | [a, b, c], _ => exact ⟨a, b, c, rfl⟩
theorem six_of {α : Type} {l : List α} (h : l.length = 6) : ∃ a b c d e f, l = [a, b, c, d, e, f] := by
  match l, h with
  | [a, b, c, d, e, f], _ => exact ⟨a, b, c, d, e, f, rfl⟩
theorem cap_elem {W : World} {fuel : Nat} {cs : List Value} {y : DataW Unit × List MemPlace} {l : List UInt8} {n : Int} (h : DataW.trod (fun _ => ()) Tryd.prog W 0 (fun _ => true) false fuel 49 cs = some y)
    (hy : y.1 = .agg [.lit (.string l), .lit (.int .i64 n)]) : ∃ s : ByteArray, cs = [.string s, .int .i64 n] ∧ s.data.toList = l := by
  have he : Tryd.prog.underlying 49 = some (.struct (Tryd.prog.fieldsOf 49)) := by kernel_rfl
  have hfs : (Tryd.prog.fieldsOf 49).toList.map (fun f => (f.type, f.offset)) = [(9, 0), (3, 1)] := by kernel_rfl
  have hc : Tryd.prog.cellsOf 49 = 2 := by kernel_rfl
  have ks : Tryd.prog.cellsOf 9 = 1 := by kernel_rfl
  have ki : Tryd.prog.cellsOf 3 = 1 := by kernel_rfl
  obtain ⟨fs, hfd⟩ : ∃ fs, Tryd.prog.fieldsOf 49 = fs := ⟨_, rfl⟩
  rw [hfd] at he hfs
  clear hfd
  obtain ⟨xs, k, _, hyx, hlen, hxl, hx⟩ := DataW.trod_struct he h
  obtain ⟨fl⟩ := fs
  rcases fl with _ | ⟨f0, _ | ⟨f1, _ | ⟨f2, fl⟩⟩⟩
  all_goals simp only [List.map_nil, List.map_cons, List.cons.injEq, Prod.mk.injEq, reduceCtorEq, and_false, and_true, false_and] at hfs
  obtain ⟨⟨t0, z0⟩, t1, z1⟩ := hfs
  rw [hc] at hlen
  subst hyx
  obtain ⟨v0, v1, rfl⟩ := two_of hlen
  obtain ⟨y0, y1, rfl⟩ := two_of (show xs.length = 2 from hxl)
  have g0 := hx 0 f0 rfl
  have g1 := hx 1 f1 rfl
  rw [t0, z0, ks] at g0
  rw [t1, z1, ki] at g1
  obtain ⟨s, e0, d0, _⟩ := DataW.trod_string Tryd.underlying9 g0
  obtain ⟨u, e1, d1, _⟩ := DataW.trod_int Tryd.underlying3 g1
  simp only [List.drop_zero, List.drop_succ_cons, List.take_succ_cons, List.take_zero, List.cons.injEq, and_true] at e0 e1
  subst e0; subst e1; subst d0; subst d1
  simp only [List.map_cons, List.map_nil, DataW.agg.injEq, List.cons.injEq, DataW.lit.injEq, Lit.string.injEq, Lit.int.injEq, and_true, true_and] at hy
  exact ⟨s, by rw [hy.2], hy.1⟩

theorem known_of {W : World} (h : laidMetH Tryd.prog [("unicode/utf8.acceptRanges", Rows.laid_unicode_utf8_acceptRanges), ("rollcall/caps.known", Rows.laid_rollcall_caps_known), ("unicode/utf8.first", Rows.laid_unicode_utf8_first)] W) : Known W := by
  rw [MakeChecks.laidMetH_plain _ _ _ (by kernel_rfl)] at h
  obtain ⟨ps, ⟨_, _, _, _, _, _, _, _, _, _, ⟨g, t, cs, fuel, p, q, hg, ht, hv, hd, _, _⟩, _⟩, _⟩ := h
  obtain rfl := Option.some.inj ((show Tryd.prog.globalNamed "rollcall/caps.known" = some 0 by kernel_rfl).symm.trans hg)
  obtain rfl := Option.some.inj ((show (Tryd.prog.globals[0]?).map (·.type) = some 50 by kernel_rfl).symm.trans ht)
  obtain ⟨xs, m, _, ex, hcl, hl, hel⟩ := DataW.trod_array Tryd.underlying50 hd
  have hc2 : Tryd.prog.cellsOf 49 = 2 := by kernel_rfl
  have hc6 : Tryd.prog.cellsOf 50 = 6 := by kernel_rfl
  rw [hc6] at hcl
  have e3 : xs.map (·.1) = [.agg [.lit (.string awayL), .lit (.int .i64 1)], .agg [.lit (.string echoL), .lit (.int .i64 2)], .agg [.lit (.string multiL), .lit (.int .i64 4)]] := (DataW.agg.inj (Prod.mk.inj ex).1).symm
  obtain ⟨y0, y1, y2, rfl⟩ := three_of hl
  have e4 := (List.cons.inj e3).1
  have e5 := (List.cons.inj (List.cons.inj e3).2).1
  have e6 := (List.cons.inj (List.cons.inj (List.cons.inj e3).2).2).1
  have h0 := hel 0 (by omega); have h1 := hel 1 (by omega); have h2 := hel 2 (by omega)
  simp only [hc2] at h0 h1 h2
  obtain ⟨s0, k0, l0⟩ := cap_elem h0 e4
  obtain ⟨s1, k1, l1⟩ := cap_elem h1 e5
  obtain ⟨s2, k2, l2⟩ := cap_elem h2 e6
  obtain rfl : s0 = awayB := ba_ext l0
  obtain rfl : s1 = echoB := ba_ext l1
  obtain rfl : s2 = multiB := ba_ext l2
  obtain ⟨cl⟩ := cs
  obtain ⟨v0, v1, v2, v3, v4, v5, rfl⟩ := six_of (show cl.length = 6 from hcl)
  simp at k0 k1 k2
  obtain ⟨rfl, rfl⟩ := k0
  obtain ⟨rfl, rfl⟩ := k1
  obtain ⟨rfl, rfl⟩ := k2
  unfold Known
  rw [World.var?_cell hg hv 0, World.var?_cell hg hv 1, World.var?_cell hg hv 2, World.var?_cell hg hv 3, World.var?_cell hg hv 4, World.var?_cell hg hv 5]
  exact ⟨rfl, rfl, rfl, rfl, rfl, rfl⟩
end Go.Proofs.YtadojlmjapmbhaaDoor
