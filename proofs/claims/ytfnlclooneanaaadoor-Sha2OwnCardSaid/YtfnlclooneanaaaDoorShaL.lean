/- What the listed package-level variables of layer 2 give: the tables hold what the document says. -/
import Derived.Test.YtfnlclooneanaaaDoorRows
import Derived.Test.YtfnlclooneanaaaDoorShaT
import Derived.ProofKit
import Derived.LaidMore
import Derived.OpenShut
import Derived.Stop.Joined
import Derived.Stop.LaidErr
import Derived.Lib.LaidTab
namespace Go.Proofs.YtfnlclooneanaaaDoor
open Go.RowKit
set_option linter.unusedVariables false

theorem gInit : Tryd.prog.globalNamed "masthead/sha2.initial" = some 1 := by kernel_rfl
theorem gRnds : Tryd.prog.globalNamed "masthead/sha2.rounds" = some 0 := by kernel_rfl
theorem tInit : (Tryd.prog.globals[1]?).map (·.type) = some 30 := by kernel_rfl
theorem tRnds : (Tryd.prog.globals[0]?).map (·.type) = some 45 := by kernel_rfl
/-- The listed variables with what they read as. -/
def laidT : List (String × DataW Unit) := [("masthead/sha2.initial", Rows.laid_masthead_sha2_initial), ("masthead/sha2.rounds", Rows.laid_masthead_sha2_rounds)]
theorem getD_cast (l : List Nat) (j : Nat) (hj : j < l.length) : (l.map fun (x : Nat) => (x : Int)).getD j 0 = ((l.getD j 0 : Nat) : Int) := by
  simp [List.getD, List.getElem?_eq_getElem hj]
theorem range_tab {W : World} {name : String} {g : Nat} (l : List Nat) (h : Lib.TabIs Tryd.prog W name .u32 (l.map fun (x : Nat) => (x : Int))) (hg : Tryd.prog.globalNamed name = some g) : W.rangeAt g 0 (l.map W32) := fun j v hv => by
  have hj : j < l.length := by have := (List.getElem?_eq_some_iff.1 hv).1; simpa using this
  have := h.cell hg j (by simpa using hj)
  rw [Nat.zero_add, this, getD_cast l j hj, ← hv, map_at l j hj]
theorem tab_of {W : World} (h : laidMetH Tryd.prog laidT W) : Tab W := by
  rw [MakeChecks.laidMetH_plain _ _ _ (by kernel_rfl)] at h
  have h1 : Lib.TabIs Tryd.prog W "masthead/sha2.initial" .u32 (h0.list.map fun (x : Nat) => (x : Int)) := Lib.tabIs_of_head (rest := [("masthead/sha2.rounds", Rows.laid_masthead_sha2_rounds)]) gInit tInit Tryd.underlying30 Tryd.underlying29 (by kernel_rfl) (by kernel_rfl) h
  have h2 : Lib.TabIs Tryd.prog W "masthead/sha2.rounds" .u32 (kk.map fun (x : Nat) => (x : Int)) := Lib.tabIs_of_head (rest := []) gRnds tRnds Tryd.underlying45 Tryd.underlying29 (by kernel_rfl) (by kernel_rfl) (laidMet.tail h)
  exact ⟨range_tab kk h2 gRnds, range_tab h0.list h1 gInit⟩
/-- The heap that the program's own start leaves meets the condition. -/
theorem door_met (os : Os) (args : Array Value) : laidMetH Tryd.prog laidT ((World.doorLaid Tryd.prog 400 os).forCall (fun _ _ => 0) ⟨#[], args, []⟩).memory :=
  laidMetH_of_parts3 (fuel := 8) (laidMet_of_run' 8 (by kernel_rfl) (by kernel_rfl)) (by kernel_rfl) (by kernel_rfl)
end Go.Proofs.YtfnlclooneanaaaDoor
