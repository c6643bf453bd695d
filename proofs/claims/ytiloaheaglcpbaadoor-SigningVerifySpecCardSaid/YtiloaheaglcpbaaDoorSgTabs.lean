/- Signing: both tables lie there, out of the rows that a statement lists. -/
import Derived.Test.YtiloaheaglcpbaaDoorSgOpen
import Derived.Test.YtiloaheaglcpbaaDoorSgS7
namespace Go.Proofs.YtiloaheaglcpbaaDoor
open Go.ChangeShapes Go.WideShapes Go.ChangeAt Go.RowKit

theorem laid_tail {P : Program} {W : World} {a : String × DataW Unit} {rest : List (String × DataW Unit)} (h : laidMet P (a :: rest) W) : laidMet P rest W := by
  obtain ⟨ps, ⟨g', t', cs, fuel, p, q, hg', ht', hvar, hd, x1, x2⟩, hn, hc⟩ := h
  first
    | (subst x2; exact ⟨q, x1, (List.nodup_append.1 hn).2.1, fun b o hb => hc b o (List.mem_append_right _ hb)⟩)
    | (subst x1; exact ⟨q, x2, (List.nodup_append.1 hn).2.1, fun b o hb => hc b o (List.mem_append_right _ hb)⟩)
theorem gK : Tryd.prog.globalNamed "veilstone/digest.constants" = some 1 := by kernel_rfl
theorem gI : Tryd.prog.globalNamed "veilstone/digest.initial" = some 0 := by kernel_rfl
theorem gKt : (Tryd.prog.globals[1]?).map (·.type) = some 83 := by kernel_rfl
theorem gIt : (Tryd.prog.globals[0]?).map (·.type) = some 77 := by kernel_rfl
theorem cellsU32 : Tryd.prog.cellsOf 76 = 1 := by kernel_rfl
theorem cells64 : Tryd.prog.cellsOf 83 = 64 := by kernel_rfl
theorem cells8 : Tryd.prog.cellsOf 77 = 8 := by kernel_rfl
theorem laidK_is : Rows.laid_veilstone_digest_constants = (Lib.tabData .u32 kTab : DataW Unit) := by kernel_rfl
theorem laidI_is : Rows.laid_veilstone_digest_initial = (Lib.tabData .u32 iTab : DataW Unit) := by kernel_rfl
theorem tabs_of {W : World} (h : laidMetH Tryd.prog Rows.signingOrderRow.laid W) : Tabs W := by
  have h0 : laidMet Tryd.prog [("veilstone/digest.constants", Lib.tabData .u32 kTab), ("veilstone/digest.initial", Lib.tabData .u32 iTab)] W := by
    rw [← laidK_is, ← laidI_is]; exact h
  have hK : Lib.TabIs Tryd.prog W "veilstone/digest.constants" .u32 kTab := Lib.tabIs_of_head gK gKt Tryd.underlying83 Tryd.underlying76 cellsU32 cells64 h0
  have hI : Lib.TabIs Tryd.prog W "veilstone/digest.initial" .u32 iTab := Lib.tabIs_of_head gI gIt Tryd.underlying77 Tryd.underlying76 cellsU32 cells8 (laid_tail h0)
  refine ⟨fun i hi => ?_, fun j u hu => ?_⟩
  · rw [hK.cell gK i hi, kW_tab i hi]
  · have hj : j < 8 := by
      rcases Nat.lt_or_ge j 8 with h | h
      · exact h
      · rw [List.getElem?_eq_none (by exact h)] at hu; cases hu
    rw [Nat.zero_add, hI.cell gI j hj, ← hu, ← init_tab, List.getElem?_map, List.getD_eq_getElem?_getD, List.getElem?_eq_getElem (show j < iTab.length from hj)]
    rfl
end Go.Proofs.YtiloaheaglcpbaaDoor
