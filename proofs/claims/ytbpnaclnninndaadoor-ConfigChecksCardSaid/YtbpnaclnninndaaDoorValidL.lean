/- The rows of bytes that valid reads: what is laid, in the world that a law begins in. -/
import Derived.Test.YtbpnaclnninndaaDoorRows
import Derived.Test.YtbpnaclnninndaaDoorValidA
import Derived.ProofKit
import Derived.OpenShut
import Derived.LaidMore
import Derived.Lay
namespace Go.Proofs.YtbpnaclnninndaaDoor
open Go.ChangeShapes Go.WideShapes Go.ChangeAt Go.RowKit

theorem rowed_of {W : World} (h : laidMetH Tryd.prog [("rollcall/valid.bytesOf", Rows.laid_rollcall_valid_bytesOf)] W) : Rowed W := by
  rw [MakeChecks.laidMetH_plain _ _ _ (by kernel_rfl)] at h
  obtain ⟨ps, ⟨g, t, cs, fuel, p, q, hg, ht, hv, hd, _, _⟩, _⟩ := h
  obtain rfl := Option.some.inj ((show Tryd.prog.globalNamed "rollcall/valid.bytesOf" = some 1 by kernel_rfl).symm.trans hg)
  obtain rfl := Option.some.inj ((show (Tryd.prog.globals[1]?).map (·.type) = some 90 by kernel_rfl).symm.trans ht)
  obtain ⟨xs, m, _, ex, _, hl, hel⟩ := DataW.trod_array Tryd.underlying90 hd
  intro i hi
  have c5 : Tryd.prog.cellsOf 9 = 1 := by kernel_rfl
  have e3 : (xs.map (·.1)) = (List.range 11).map fun k => .lit (.string (laidRow k)) := (DataW.agg.inj (Prod.mk.inj ex).1).symm
  have hlen : xs.length = 11 := by have := congrArg List.length e3; simpa using this
  have hE := hel i (by omega)
  rw [c5, Nat.mul_one, List.getElem?_eq_getElem (by omega)] at hE
  obtain ⟨s, e1, e2, _⟩ := DataW.trod_string Tryd.underlying9 hE
  have e4 : (xs.map (·.1))[i]? = ((List.range 11).map fun k => (DataW.lit (.string (laidRow k)) : DataW Unit))[i]? := by rw [e3]
  rw [List.getElem?_map, List.getElem?_map, List.getElem?_eq_getElem (by omega : i < xs.length), List.getElem?_eq_getElem (by simpa using hi : i < (List.range 11).length), e2] at e4
  have hz : s.data.toList = laidRow i := by
    simp only [Option.map_some, Option.some.injEq, DataW.lit.injEq, Lit.string.injEq, List.getElem_range] at e4
    exact e4
  refine ⟨s, ?_, hz⟩
  rw [World.var?_cell hg hv i]
  have : cs.toList[i]? = some (.string s) := by
    have h0 : ((cs.toList.drop i).take 1)[0]? = some (.string s) := by rw [e1]; rfl
    simpa using h0
  simpa using this
end Go.Proofs.YtbpnaclnninndaaDoor
