/-
  No cell of these rows narrows 'for every input' (looked for: loops, veiled, ifaces, maps, wideKeys, modest, calm, conditions, laid).
  DERIVED. THE GIVEN ROWS OF THIS SEAT. 5 by the template 'for every input the law returns true; each argument reads behind the call as it read before'; 0 by the template 'total and deterministic' (their statements: YtkmedbdaobficaaTotals.lean).
  GIVEN WITH THE SEED: the statements are not yours to turn. If you find one false, say at which input.
  Laid BY PROGRAM, IN A SANDBOX (cutbox-rows.mjs): the forced cells as the released guide's own fill.sh prints them over the translation a88c73b89a0c2a0b… (all of the seat's roots in one cut). By AI agents, Wed Nov 11 2026. No macro, syntax, notation, axiom, sorry.
-/
import Derived.Test.YtkmedbdaobficaaChecked
import GoSem.Claim
import GoSem.ClaimJoined
import GoSem.ClaimMapViews
import Derived.JoinedTies
import Derived.KernelRfl
namespace Go.Proofs.Ytkmedbdaobficaa
/- THE CELL 'sum', in the pinned program and in every row, IS THE sha256 OF THE DUMP (.gsa) THAT YtkmedbdaobficaaProg.lean LOADS. Nothing in Lean hashes anything: it is a label: what it is worth is what the hold of that sum in a sandbox is worth. -/
noncomputable def Try.pinned : Pinned := { name := "ytkmedbdaobficaa", sum := "a88c73b89a0c2a0b7e05e43861f27c66db8ef547130788e59c90a0586bf1ba79", checked := Try.checked }
namespace Rows
def none {H : Type} : Left H := { results := [], args := [] }

/-- 'mastheadlaw12.RicePuts': WHATEVER THE INPUT: true; the input reads as it did. -/
def ricePutsSpec : ChangeSpec := { name := "ricePuts", fn := fun _ => fun
  | [d1, d2] => { results := [.lit (.bool true)], args := [d1, d2] }
  | _ => none }
def ricePutsRow : OpenClaim := { program := "ytkmedbdaobficaa", sum := "a88c73b89a0c2a0b7e05e43861f27c66db8ef547130788e59c90a0586bf1ba79", func := "masthead/mastheadlaw12.RicePuts", spec := "ricePuts", apart := false }
def RicePutsSaid : Prop := ricePutsRow.holds Try.pinned (OpenSpec.ofChange ricePutsSpec)

/-- ITS FALSE NEIGHBOUR: 'it returns false'. Refute it at one input. -/
def ricePutsWrong : ChangeSpec := { name := "ricePuts", fn := fun _ => fun
  | [d1, d2] => { results := [.lit (.bool false)], args := [d1, d2] }
  | _ => none }
def RicePutsWrongFalsely : Prop := ricePutsRow.holds Try.pinned (OpenSpec.ofChange ricePutsWrong)

/-- 'mastheadlaw12.RiceSizes': WHATEVER THE INPUT: true; the input reads as it did. -/
def riceSizesSpec : ChangeSpec := { name := "riceSizes", fn := fun _ => fun
  | [d1, d2] => { results := [.lit (.bool true)], args := [d1, d2] }
  | _ => none }
def riceSizesRow : OpenClaim := { program := "ytkmedbdaobficaa", sum := "a88c73b89a0c2a0b7e05e43861f27c66db8ef547130788e59c90a0586bf1ba79", func := "masthead/mastheadlaw12.RiceSizes", spec := "riceSizes", apart := false }
def RiceSizesSaid : Prop := riceSizesRow.holds Try.pinned (OpenSpec.ofChange riceSizesSpec)

/-- ITS FALSE NEIGHBOUR: 'it returns false'. Refute it at one input. -/
def riceSizesWrong : ChangeSpec := { name := "riceSizes", fn := fun _ => fun
  | [d1, d2] => { results := [.lit (.bool false)], args := [d1, d2] }
  | _ => none }
def RiceSizesWrongFalsely : Prop := riceSizesRow.holds Try.pinned (OpenSpec.ofChange riceSizesWrong)

/-- 'mastheadlaw12.RiceGets': WHATEVER THE INPUT: true; the input reads as it did. -/
def riceGetsSpec : ChangeSpec := { name := "riceGets", fn := fun _ => fun
  | [d1, d2, d3] => { results := [.lit (.bool true)], args := [d1, d2, d3] }
  | _ => none }
def riceGetsRow : OpenClaim := { program := "ytkmedbdaobficaa", sum := "a88c73b89a0c2a0b7e05e43861f27c66db8ef547130788e59c90a0586bf1ba79", func := "masthead/mastheadlaw12.RiceGets", spec := "riceGets", apart := false }
def RiceGetsSaid : Prop := riceGetsRow.holds Try.pinned (OpenSpec.ofChange riceGetsSpec)

/-- ITS FALSE NEIGHBOUR: 'it returns false'. Refute it at one input. -/
def riceGetsWrong : ChangeSpec := { name := "riceGets", fn := fun _ => fun
  | [d1, d2, d3] => { results := [.lit (.bool false)], args := [d1, d2, d3] }
  | _ => none }
def RiceGetsWrongFalsely : Prop := riceGetsRow.holds Try.pinned (OpenSpec.ofChange riceGetsWrong)

/-- 'mastheadlaw12.RiceBack': WHATEVER THE INPUT: true; the input reads as it did. -/
def riceBackSpec : ChangeSpec := { name := "riceBack", fn := fun _ => fun
  | [d1, d2] => { results := [.lit (.bool true)], args := [d1, d2] }
  | _ => none }
def riceBackRow : OpenClaim := { program := "ytkmedbdaobficaa", sum := "a88c73b89a0c2a0b7e05e43861f27c66db8ef547130788e59c90a0586bf1ba79", func := "masthead/mastheadlaw12.RiceBack", spec := "riceBack", apart := false }
def RiceBackSaid : Prop := riceBackRow.holds Try.pinned (OpenSpec.ofChange riceBackSpec)

/-- ITS FALSE NEIGHBOUR: 'it returns false'. Refute it at one input. -/
def riceBackWrong : ChangeSpec := { name := "riceBack", fn := fun _ => fun
  | [d1, d2] => { results := [.lit (.bool false)], args := [d1, d2] }
  | _ => none }
def RiceBackWrongFalsely : Prop := riceBackRow.holds Try.pinned (OpenSpec.ofChange riceBackWrong)

/-- 'mastheadlaw12.RiceSteps': WHATEVER THE INPUT: true; the input reads as it did. -/
def riceStepsSpec : ChangeSpec := { name := "riceSteps", fn := fun _ => fun
  | [d1, d2] => { results := [.lit (.bool true)], args := [d1, d2] }
  | _ => none }
def riceStepsRow : OpenClaim := { program := "ytkmedbdaobficaa", sum := "a88c73b89a0c2a0b7e05e43861f27c66db8ef547130788e59c90a0586bf1ba79", func := "masthead/mastheadlaw12.RiceSteps", spec := "riceSteps", apart := false }
def RiceStepsSaid : Prop := riceStepsRow.holds Try.pinned (OpenSpec.ofChange riceStepsSpec)

/-- ITS FALSE NEIGHBOUR: 'it returns false'. Refute it at one input. -/
def riceStepsWrong : ChangeSpec := { name := "riceSteps", fn := fun _ => fun
  | [d1, d2] => { results := [.lit (.bool false)], args := [d1, d2] }
  | _ => none }
def RiceStepsWrongFalsely : Prop := riceStepsRow.holds Try.pinned (OpenSpec.ofChange riceStepsWrong)

/- THE SECOND FORM. 'bulk': how many values and letters a reading holds, each counted each time it is reached (what is shared counts as often as it is met; a slice's spare places count too). A statement '..UptoSaid' is the law's where the arguments, and the package variables that the reading takes, are together of bulk at most 1048576: NARROWER than '..Said'. Prove '..Said' where nothing that the law and all that it calls make is longer than what came in: it says more and counts as full. Else prove '..UptoSaid'. A law counts once. -/
mutual
def uptoBulk {H : Type} : DataW H → Nat
  | .lit (.string bytes) => bytes.length + 1
  | .lit _ => 1
  | .nil => 1
  | .ptr d => uptoBulk d + 1
  | .slice elems spare => uptoBulkAll elems + uptoBulkAll spare + 1
  | .agg parts => uptoBulkAll parts + 1
  | .iface _ d => uptoBulk d + 1
  | .map entries => uptoBulkEntries entries + 1
  | .held _ => 1
def uptoBulkAll {H : Type} : List (DataW H) → Nat
  | [] => 0
  | d :: r => uptoBulk d + uptoBulkAll r
def uptoBulkEntries {H : Type} : List (Lit × DataW H) → Nat
  | [] => 0
  | x :: r => uptoBulkEntry x + uptoBulkEntries r
def uptoBulkEntry {H : Type} : Lit × DataW H → Nat
  | (.string bytes, d) => bytes.length + uptoBulk d + 1
  | (_, d) => uptoBulk d + 1
 end
def uptoSmall : (H : Type) → List (DataW H) → Bool := fun _ ds => decide (uptoBulkAll ds ≤ 1048576)
def OpenSpec.upto (s : _root_.Go.ChangeSpec) : _root_.Go.OpenSpec := { _root_.Go.OpenSpec.ofChange s with cond := some uptoSmall }

/-- 'mastheadlaw12.RicePuts', WHERE WHAT IT READS IS OF BULK AT MOST 1048576: true; the input reads as it did. -/
def ricePutsUptoRow : OpenClaim := { program := "ytkmedbdaobficaa", sum := "a88c73b89a0c2a0b7e05e43861f27c66db8ef547130788e59c90a0586bf1ba79", func := "masthead/mastheadlaw12.RicePuts", spec := "ricePuts", apart := false, narrowed := true }
def RicePutsUptoSaid : Prop := ricePutsUptoRow.holds Try.pinned (OpenSpec.upto ricePutsSpec)

/-- 'mastheadlaw12.RiceSizes', WHERE WHAT IT READS IS OF BULK AT MOST 1048576: true; the input reads as it did. -/
def riceSizesUptoRow : OpenClaim := { program := "ytkmedbdaobficaa", sum := "a88c73b89a0c2a0b7e05e43861f27c66db8ef547130788e59c90a0586bf1ba79", func := "masthead/mastheadlaw12.RiceSizes", spec := "riceSizes", apart := false, narrowed := true }
def RiceSizesUptoSaid : Prop := riceSizesUptoRow.holds Try.pinned (OpenSpec.upto riceSizesSpec)

/-- 'mastheadlaw12.RiceGets', WHERE WHAT IT READS IS OF BULK AT MOST 1048576: true; the input reads as it did. -/
def riceGetsUptoRow : OpenClaim := { program := "ytkmedbdaobficaa", sum := "a88c73b89a0c2a0b7e05e43861f27c66db8ef547130788e59c90a0586bf1ba79", func := "masthead/mastheadlaw12.RiceGets", spec := "riceGets", apart := false, narrowed := true }
def RiceGetsUptoSaid : Prop := riceGetsUptoRow.holds Try.pinned (OpenSpec.upto riceGetsSpec)

/-- 'mastheadlaw12.RiceBack', WHERE WHAT IT READS IS OF BULK AT MOST 1048576: true; the input reads as it did. -/
def riceBackUptoRow : OpenClaim := { program := "ytkmedbdaobficaa", sum := "a88c73b89a0c2a0b7e05e43861f27c66db8ef547130788e59c90a0586bf1ba79", func := "masthead/mastheadlaw12.RiceBack", spec := "riceBack", apart := false, narrowed := true }
def RiceBackUptoSaid : Prop := riceBackUptoRow.holds Try.pinned (OpenSpec.upto riceBackSpec)

/-- 'mastheadlaw12.RiceSteps', WHERE WHAT IT READS IS OF BULK AT MOST 1048576: true; the input reads as it did. -/
def riceStepsUptoRow : OpenClaim := { program := "ytkmedbdaobficaa", sum := "a88c73b89a0c2a0b7e05e43861f27c66db8ef547130788e59c90a0586bf1ba79", func := "masthead/mastheadlaw12.RiceSteps", spec := "riceSteps", apart := false, narrowed := true }
def RiceStepsUptoSaid : Prop := riceStepsUptoRow.holds Try.pinned (OpenSpec.upto riceStepsSpec)

end Rows
end Go.Proofs.Ytkmedbdaobficaa
