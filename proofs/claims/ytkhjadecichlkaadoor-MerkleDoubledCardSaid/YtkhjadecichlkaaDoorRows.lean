/-
  NARROWER THAN 'FOR EVERY INPUT', by the rows' own cells (each row's printed sentence says how): MerkleRoots: laid · MerkleAbove: laid · MerkleDoubled: laid · MerkleTwice: laid · MerkleDepths: laid · MerkleApart: laid.
  DERIVED. THE GIVEN ROWS OF THIS SEAT. 6 by the template 'for every input the law returns true; each argument reads behind the call as it read before'; 0 by the template 'total and deterministic' (their statements: YtkhjadecichlkaaDoorTotals.lean).
  GIVEN WITH THE SEED: the statements are not yours to turn. If you find one false, say at which input.
  Laid BY PROGRAM, IN A SANDBOX (cutbox-rows.mjs): the forced cells as the released guide's own fill.sh prints them over the translation 2bb385be964961f8… (all of the seat's roots in one cut). By AI agents, Wed Nov 11 2026. No macro, syntax, notation, axiom, sorry.
-/
import Derived.Test.YtkhjadecichlkaaDoorChecked
import GoSem.Claim
import GoSem.ClaimJoined
import GoSem.ClaimMapViews
import Derived.JoinedTies
import Derived.KernelRfl
namespace Go.Proofs.YtkhjadecichlkaaDoor
/- THE CELL 'sum', in the pinned program and in every row, IS THE sha256 OF THE DUMP (.gsa) THAT YtkhjadecichlkaaDoorProg.lean LOADS. Nothing in Lean hashes anything: it is a label: what it is worth is what the hold of that sum in a sandbox is worth. -/
noncomputable def Tryd.pinned : Pinned := { name := "ytkhjadecichlkaadoor", sum := "2bb385be964961f82ae683030fe1e0c8eb5c8d6e42536ba832eaced0c954aa08", checked := Tryd.checked }
namespace Rows
def none {H : Type} : Left H := { results := [], args := [] }

/- WHAT THE LISTED PACKAGE-LEVEL VARIABLES READ AS WHEN THE CALL BEGINS. Each datum BY PROGRAM (the guide's laid-datum.mjs) off the statement by which the dump's own 'gosem.cut.vars' lays the variable. In a bare row this is a premise. The card (YtkhjadecichlkaaDoorCards.lean) ties it to the program's text. -/
def laid_masthead_sha2_initial {H : Type} : DataW H := .agg [.lit (.int .u32 1779033703), .lit (.int .u32 3144134277), .lit (.int .u32 1013904242), .lit (.int .u32 2773480762), .lit (.int .u32 1359893119), .lit (.int .u32 2600822924), .lit (.int .u32 528734635), .lit (.int .u32 1541459225)]
def laid_masthead_sha2_rounds {H : Type} : DataW H := .agg [.lit (.int .u32 1116352408), .lit (.int .u32 1899447441), .lit (.int .u32 3049323471), .lit (.int .u32 3921009573), .lit (.int .u32 961987163), .lit (.int .u32 1508970993), .lit (.int .u32 2453635748), .lit (.int .u32 2870763221), .lit (.int .u32 3624381080), .lit (.int .u32 310598401), .lit (.int .u32 607225278), .lit (.int .u32 1426881987), .lit (.int .u32 1925078388), .lit (.int .u32 2162078206), .lit (.int .u32 2614888103), .lit (.int .u32 3248222580), .lit (.int .u32 3835390401), .lit (.int .u32 4022224774), .lit (.int .u32 264347078), .lit (.int .u32 604807628), .lit (.int .u32 770255983), .lit (.int .u32 1249150122), .lit (.int .u32 1555081692), .lit (.int .u32 1996064986), .lit (.int .u32 2554220882), .lit (.int .u32 2821834349), .lit (.int .u32 2952996808), .lit (.int .u32 3210313671), .lit (.int .u32 3336571891), .lit (.int .u32 3584528711), .lit (.int .u32 113926993), .lit (.int .u32 338241895), .lit (.int .u32 666307205), .lit (.int .u32 773529912), .lit (.int .u32 1294757372), .lit (.int .u32 1396182291), .lit (.int .u32 1695183700), .lit (.int .u32 1986661051), .lit (.int .u32 2177026350), .lit (.int .u32 2456956037), .lit (.int .u32 2730485921), .lit (.int .u32 2820302411), .lit (.int .u32 3259730800), .lit (.int .u32 3345764771), .lit (.int .u32 3516065817), .lit (.int .u32 3600352804), .lit (.int .u32 4094571909), .lit (.int .u32 275423344), .lit (.int .u32 430227734), .lit (.int .u32 506948616), .lit (.int .u32 659060556), .lit (.int .u32 883997877), .lit (.int .u32 958139571), .lit (.int .u32 1322822218), .lit (.int .u32 1537002063), .lit (.int .u32 1747873779), .lit (.int .u32 1955562222), .lit (.int .u32 2024104815), .lit (.int .u32 2227730452), .lit (.int .u32 2361852424), .lit (.int .u32 2428436474), .lit (.int .u32 2756734187), .lit (.int .u32 3204031479), .lit (.int .u32 3329325298)]

/-- 'mastheadlaw08.MerkleRoots': WHATEVER THE INPUT: true; the input reads as it did. -/
def merkleRootsSpec : ChangeSpec := { name := "merkleRoots", fn := fun _ => fun
  | [d] => { results := [.lit (.bool true)], args := [d] }
  | _ => none }
def merkleRootsRow : OpenClaim := { program := "ytkhjadecichlkaadoor", sum := "2bb385be964961f82ae683030fe1e0c8eb5c8d6e42536ba832eaced0c954aa08", func := "masthead/mastheadlaw08.MerkleRoots", spec := "merkleRoots", unfollowed := true, recurses := true, named := ["masthead/sha2.initial", "masthead/sha2.rounds"], apart := false, laid := [("masthead/sha2.initial", laid_masthead_sha2_initial), ("masthead/sha2.rounds", laid_masthead_sha2_rounds)] }
def MerkleRootsSaid : Prop := merkleRootsRow.holds Tryd.pinned (OpenSpec.ofChange merkleRootsSpec)

/-- ITS FALSE NEIGHBOUR: 'it returns false'. Refute it at one input. -/
def merkleRootsWrong : ChangeSpec := { name := "merkleRoots", fn := fun _ => fun
  | [d] => { results := [.lit (.bool false)], args := [d] }
  | _ => none }
def MerkleRootsWrongFalsely : Prop := merkleRootsRow.holds Tryd.pinned (OpenSpec.ofChange merkleRootsWrong)

/-- 'mastheadlaw08.MerkleAbove': WHATEVER THE INPUT: true; the input reads as it did. -/
def merkleAboveSpec : ChangeSpec := { name := "merkleAbove", fn := fun _ => fun
  | [d] => { results := [.lit (.bool true)], args := [d] }
  | _ => none }
def merkleAboveRow : OpenClaim := { program := "ytkhjadecichlkaadoor", sum := "2bb385be964961f82ae683030fe1e0c8eb5c8d6e42536ba832eaced0c954aa08", func := "masthead/mastheadlaw08.MerkleAbove", spec := "merkleAbove", unfollowed := true, recurses := true, named := ["masthead/sha2.initial", "masthead/sha2.rounds"], apart := false, laid := [("masthead/sha2.initial", laid_masthead_sha2_initial), ("masthead/sha2.rounds", laid_masthead_sha2_rounds)] }
def MerkleAboveSaid : Prop := merkleAboveRow.holds Tryd.pinned (OpenSpec.ofChange merkleAboveSpec)

/-- ITS FALSE NEIGHBOUR: 'it returns false'. Refute it at one input. -/
def merkleAboveWrong : ChangeSpec := { name := "merkleAbove", fn := fun _ => fun
  | [d] => { results := [.lit (.bool false)], args := [d] }
  | _ => none }
def MerkleAboveWrongFalsely : Prop := merkleAboveRow.holds Tryd.pinned (OpenSpec.ofChange merkleAboveWrong)

/-- 'mastheadlaw08.MerkleDoubled': WHATEVER THE INPUT: true; the input reads as it did. -/
def merkleDoubledSpec : ChangeSpec := { name := "merkleDoubled", fn := fun _ => fun
  | [d] => { results := [.lit (.bool true)], args := [d] }
  | _ => none }
def merkleDoubledRow : OpenClaim := { program := "ytkhjadecichlkaadoor", sum := "2bb385be964961f82ae683030fe1e0c8eb5c8d6e42536ba832eaced0c954aa08", func := "masthead/mastheadlaw08.MerkleDoubled", spec := "merkleDoubled", unfollowed := true, recurses := true, named := ["masthead/sha2.initial", "masthead/sha2.rounds"], apart := false, laid := [("masthead/sha2.initial", laid_masthead_sha2_initial), ("masthead/sha2.rounds", laid_masthead_sha2_rounds)] }
def MerkleDoubledSaid : Prop := merkleDoubledRow.holds Tryd.pinned (OpenSpec.ofChange merkleDoubledSpec)

/-- ITS FALSE NEIGHBOUR: 'it returns false'. Refute it at one input. -/
def merkleDoubledWrong : ChangeSpec := { name := "merkleDoubled", fn := fun _ => fun
  | [d] => { results := [.lit (.bool false)], args := [d] }
  | _ => none }
def MerkleDoubledWrongFalsely : Prop := merkleDoubledRow.holds Tryd.pinned (OpenSpec.ofChange merkleDoubledWrong)

/-- 'mastheadlaw08.MerkleTwice': WHATEVER THE INPUT: true; the input reads as it did. -/
def merkleTwiceSpec : ChangeSpec := { name := "merkleTwice", fn := fun _ => fun
  | [d] => { results := [.lit (.bool true)], args := [d] }
  | _ => none }
def merkleTwiceRow : OpenClaim := { program := "ytkhjadecichlkaadoor", sum := "2bb385be964961f82ae683030fe1e0c8eb5c8d6e42536ba832eaced0c954aa08", func := "masthead/mastheadlaw08.MerkleTwice", spec := "merkleTwice", unfollowed := true, recurses := true, named := ["masthead/sha2.initial", "masthead/sha2.rounds"], apart := false, laid := [("masthead/sha2.initial", laid_masthead_sha2_initial), ("masthead/sha2.rounds", laid_masthead_sha2_rounds)] }
def MerkleTwiceSaid : Prop := merkleTwiceRow.holds Tryd.pinned (OpenSpec.ofChange merkleTwiceSpec)

/-- ITS FALSE NEIGHBOUR: 'it returns false'. Refute it at one input. -/
def merkleTwiceWrong : ChangeSpec := { name := "merkleTwice", fn := fun _ => fun
  | [d] => { results := [.lit (.bool false)], args := [d] }
  | _ => none }
def MerkleTwiceWrongFalsely : Prop := merkleTwiceRow.holds Tryd.pinned (OpenSpec.ofChange merkleTwiceWrong)

/-- 'mastheadlaw08.MerkleDepths': WHATEVER THE INPUT: true; the input reads as it did. -/
def merkleDepthsSpec : ChangeSpec := { name := "merkleDepths", fn := fun _ => fun
  | [d] => { results := [.lit (.bool true)], args := [d] }
  | _ => none }
def merkleDepthsRow : OpenClaim := { program := "ytkhjadecichlkaadoor", sum := "2bb385be964961f82ae683030fe1e0c8eb5c8d6e42536ba832eaced0c954aa08", func := "masthead/mastheadlaw08.MerkleDepths", spec := "merkleDepths", unfollowed := true, recurses := true, named := ["masthead/sha2.initial", "masthead/sha2.rounds"], apart := false, laid := [("masthead/sha2.initial", laid_masthead_sha2_initial), ("masthead/sha2.rounds", laid_masthead_sha2_rounds)] }
def MerkleDepthsSaid : Prop := merkleDepthsRow.holds Tryd.pinned (OpenSpec.ofChange merkleDepthsSpec)

/-- ITS FALSE NEIGHBOUR: 'it returns false'. Refute it at one input. -/
def merkleDepthsWrong : ChangeSpec := { name := "merkleDepths", fn := fun _ => fun
  | [d] => { results := [.lit (.bool false)], args := [d] }
  | _ => none }
def MerkleDepthsWrongFalsely : Prop := merkleDepthsRow.holds Tryd.pinned (OpenSpec.ofChange merkleDepthsWrong)

/-- 'mastheadlaw08.MerkleApart': WHATEVER THE INPUT: true; the input reads as it did. -/
def merkleApartSpec : ChangeSpec := { name := "merkleApart", fn := fun _ => fun
  | [d1, d2, d3] => { results := [.lit (.bool true)], args := [d1, d2, d3] }
  | _ => none }
def merkleApartRow : OpenClaim := { program := "ytkhjadecichlkaadoor", sum := "2bb385be964961f82ae683030fe1e0c8eb5c8d6e42536ba832eaced0c954aa08", func := "masthead/mastheadlaw08.MerkleApart", spec := "merkleApart", unfollowed := true, recurses := true, named := ["masthead/sha2.initial", "masthead/sha2.rounds"], apart := false, laid := [("masthead/sha2.initial", laid_masthead_sha2_initial), ("masthead/sha2.rounds", laid_masthead_sha2_rounds)] }
def MerkleApartSaid : Prop := merkleApartRow.holds Tryd.pinned (OpenSpec.ofChange merkleApartSpec)

/-- ITS FALSE NEIGHBOUR: 'it returns false'. Refute it at one input. -/
def merkleApartWrong : ChangeSpec := { name := "merkleApart", fn := fun _ => fun
  | [d1, d2, d3] => { results := [.lit (.bool false)], args := [d1, d2, d3] }
  | _ => none }
def MerkleApartWrongFalsely : Prop := merkleApartRow.holds Tryd.pinned (OpenSpec.ofChange merkleApartWrong)

/- THE SECOND FORM. 'bulk': how many values and letters a reading holds, each counted each time it is reached (what is shared counts as often as it is met; a slice's spare places count too). A statement '..UptoSaid' is the law's where the arguments, and the package variables that the reading takes, are together of bulk at most 1048576: NARROWER than '..Said'. Prove '..Said' where nothing that the law and all that it calls make is longer than what came in: it says more and counts as full. Else prove '..UptoSaid'. A law counts once. -/
mutual
def uptoBulk {H : Type} : DataW H → Nat
  | .lit (.string bytes) => bytes.length + 1
  | .lit _ => 1
  | .nil => 1
  | .ptr d => uptoBulk d + 1
  | .slice elems spare => uptoBulkAll elems + uptoBulkAll spare + 1
  | .agg parts => uptoBulkAll parts + 1
  | .iface _ d => uptoBulk d + 1
  | .map entries => uptoBulkEntries entries + 1
  | .held _ => 1
def uptoBulkAll {H : Type} : List (DataW H) → Nat
  | [] => 0
  | d :: r => uptoBulk d + uptoBulkAll r
def uptoBulkEntries {H : Type} : List (Lit × DataW H) → Nat
  | [] => 0
  | x :: r => uptoBulkEntry x + uptoBulkEntries r
def uptoBulkEntry {H : Type} : Lit × DataW H → Nat
  | (.string bytes, d) => bytes.length + uptoBulk d + 1
  | (_, d) => uptoBulk d + 1
 end
def uptoSmall : (H : Type) → List (DataW H) → Bool := fun _ ds => decide (uptoBulkAll ds ≤ 1048576)
def OpenSpec.upto (s : _root_.Go.ChangeSpec) : _root_.Go.OpenSpec := { _root_.Go.OpenSpec.ofChange s with cond := some uptoSmall }

/-- 'mastheadlaw08.MerkleRoots', WHERE WHAT IT READS IS OF BULK AT MOST 1048576: true; the input reads as it did. -/
def merkleRootsUptoRow : OpenClaim := { program := "ytkhjadecichlkaadoor", sum := "2bb385be964961f82ae683030fe1e0c8eb5c8d6e42536ba832eaced0c954aa08", func := "masthead/mastheadlaw08.MerkleRoots", spec := "merkleRoots", unfollowed := true, recurses := true, named := ["masthead/sha2.initial", "masthead/sha2.rounds"], apart := false, laid := [("masthead/sha2.initial", laid_masthead_sha2_initial), ("masthead/sha2.rounds", laid_masthead_sha2_rounds)], narrowed := true }
def MerkleRootsUptoSaid : Prop := merkleRootsUptoRow.holds Tryd.pinned (OpenSpec.upto merkleRootsSpec)

/-- 'mastheadlaw08.MerkleAbove', WHERE WHAT IT READS IS OF BULK AT MOST 1048576: true; the input reads as it did. -/
def merkleAboveUptoRow : OpenClaim := { program := "ytkhjadecichlkaadoor", sum := "2bb385be964961f82ae683030fe1e0c8eb5c8d6e42536ba832eaced0c954aa08", func := "masthead/mastheadlaw08.MerkleAbove", spec := "merkleAbove", unfollowed := true, recurses := true, named := ["masthead/sha2.initial", "masthead/sha2.rounds"], apart := false, laid := [("masthead/sha2.initial", laid_masthead_sha2_initial), ("masthead/sha2.rounds", laid_masthead_sha2_rounds)], narrowed := true }
def MerkleAboveUptoSaid : Prop := merkleAboveUptoRow.holds Tryd.pinned (OpenSpec.upto merkleAboveSpec)

/-- 'mastheadlaw08.MerkleDoubled', WHERE WHAT IT READS IS OF BULK AT MOST 1048576: true; the input reads as it did. -/
def merkleDoubledUptoRow : OpenClaim := { program := "ytkhjadecichlkaadoor", sum := "2bb385be964961f82ae683030fe1e0c8eb5c8d6e42536ba832eaced0c954aa08", func := "masthead/mastheadlaw08.MerkleDoubled", spec := "merkleDoubled", unfollowed := true, recurses := true, named := ["masthead/sha2.initial", "masthead/sha2.rounds"], apart := false, laid := [("masthead/sha2.initial", laid_masthead_sha2_initial), ("masthead/sha2.rounds", laid_masthead_sha2_rounds)], narrowed := true }
def MerkleDoubledUptoSaid : Prop := merkleDoubledUptoRow.holds Tryd.pinned (OpenSpec.upto merkleDoubledSpec)

/-- 'mastheadlaw08.MerkleTwice', WHERE WHAT IT READS IS OF BULK AT MOST 1048576: true; the input reads as it did. -/
def merkleTwiceUptoRow : OpenClaim := { program := "ytkhjadecichlkaadoor", sum := "2bb385be964961f82ae683030fe1e0c8eb5c8d6e42536ba832eaced0c954aa08", func := "masthead/mastheadlaw08.MerkleTwice", spec := "merkleTwice", unfollowed := true, recurses := true, named := ["masthead/sha2.initial", "masthead/sha2.rounds"], apart := false, laid := [("masthead/sha2.initial", laid_masthead_sha2_initial), ("masthead/sha2.rounds", laid_masthead_sha2_rounds)], narrowed := true }
def MerkleTwiceUptoSaid : Prop := merkleTwiceUptoRow.holds Tryd.pinned (OpenSpec.upto merkleTwiceSpec)

/-- 'mastheadlaw08.MerkleDepths', WHERE WHAT IT READS IS OF BULK AT MOST 1048576: true; the input reads as it did. -/
def merkleDepthsUptoRow : OpenClaim := { program := "ytkhjadecichlkaadoor", sum := "2bb385be964961f82ae683030fe1e0c8eb5c8d6e42536ba832eaced0c954aa08", func := "masthead/mastheadlaw08.MerkleDepths", spec := "merkleDepths", unfollowed := true, recurses := true, named := ["masthead/sha2.initial", "masthead/sha2.rounds"], apart := false, laid := [("masthead/sha2.initial", laid_masthead_sha2_initial), ("masthead/sha2.rounds", laid_masthead_sha2_rounds)], narrowed := true }
def MerkleDepthsUptoSaid : Prop := merkleDepthsUptoRow.holds Tryd.pinned (OpenSpec.upto merkleDepthsSpec)

/-- 'mastheadlaw08.MerkleApart', WHERE WHAT IT READS IS OF BULK AT MOST 1048576: true; the input reads as it did. -/
def merkleApartUptoRow : OpenClaim := { program := "ytkhjadecichlkaadoor", sum := "2bb385be964961f82ae683030fe1e0c8eb5c8d6e42536ba832eaced0c954aa08", func := "masthead/mastheadlaw08.MerkleApart", spec := "merkleApart", unfollowed := true, recurses := true, named := ["masthead/sha2.initial", "masthead/sha2.rounds"], apart := false, laid := [("masthead/sha2.initial", laid_masthead_sha2_initial), ("masthead/sha2.rounds", laid_masthead_sha2_rounds)], narrowed := true }
def MerkleApartUptoSaid : Prop := merkleApartUptoRow.holds Tryd.pinned (OpenSpec.upto merkleApartSpec)

end Rows
end Go.Proofs.YtkhjadecichlkaaDoor
