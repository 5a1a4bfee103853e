/- The contract of the reference's Text of layer 4: the decimal digits of a number. -/
import Derived.Test.YtdgfgehjnfadnaaBigP
namespace Go.Proofs.Ytdgfgehjnfadnaa
open Go.RowKit
set_option linter.unusedVariables false

/-- The decimal digits of a number above 0; none of 0. -/
def decL (n : Nat) : List UInt8 := if h : n = 0 then [] else decL (n / 10) ++ [UInt8.ofNat (48 + n % 10)]
termination_by n
decreasing_by omega
theorem decL_zero : decL 0 = [] := by unfold decL; simp
theorem decL_pos {n : Nat} (h : n ≠ 0) : decL n = decL (n / 10) ++ [UInt8.ofNat (48 + n % 10)] := by rw [decL]; simp [h]
/-- The text of a number. -/
def decT (n : Nat) : List UInt8 := if n = 0 then [48] else decL n
/-- Bytes as a string holds them. -/
def str (l : List UInt8) : ByteArray := ⟨l.toArray⟩
theorem str_size (l : List UInt8) : (str l).size = l.length := by show l.toArray.size = _; simp
theorem str_cat (l r : List UInt8) : str l ++ str r = str (l ++ r) := by
  apply ByteArray.ext
  simp [str, ByteArray.data_append]
theorem div_step (la nx : List Nat) (i c m : Nat) (hia : i < la.length) (hin : i < nx.length) (hm : m = c * 65536 + la.getD i 0) (h : valB (nx.drop (i + 1)) * 10 + c = valB (la.drop (i + 1))) :
    valB ((nx.set i (m / 10)).drop i) * 10 + m % 10 = valB (la.drop i) := by
  have e1 : (nx.set i (m / 10)).drop i = (m / 10) :: nx.drop (i + 1) := by
    rw [List.drop_eq_getElem_cons (by rw [List.length_set]; exact hin), List.getElem_set_self, List.drop_set_of_lt (by omega)]
  have e2 : la.drop i = la.getD i 0 :: la.drop (i + 1) := by
    rw [List.drop_eq_getElem_cons hia, List.getD_eq_getElem?_getD, List.getElem?_eq_getElem hia]; rfl
  rw [e1, e2, valB, valB, ← h]
  omega

end Go.Proofs.Ytdgfgehjnfadnaa
