/- The contracts of the document's answers in one form, for the laws over wide numbers. -/
import Derived.Test.YtdgfgehjnfadnaaWidV
namespace Go.Proofs.Ytdgfgehjnfadnaa
open Go.RowKit
set_option linter.unusedVariables false

/-- V holds the words of n. -/
def Wv (n : Nat) (V : List Value) : Prop := n < 2 ^ 256 ∧ V = cellsW (wd n)
/-- As many digits as the document's answers are called with here. -/
def Few (n : Nat) : Prop := n < 65536 ^ 250
theorem Few.wide {n : Nat} (h : n < 2 ^ 256) : Few n := Nat.lt_trans h (by decide)
theorem pow_few (j k : Nat) (h : k < 16 * j) : 2 ^ k < 65536 ^ j := by
  rw [show (65536 : Nat) = 2 ^ 16 from rfl, ← Nat.pow_mul]
  exact Nat.pow_lt_pow_right (by decide) h
theorem Few.pow {k : Nat} (h : k < 4000) : Few (2 ^ k) := pow_few 250 k (by omega)
theorem Few.le {w : World} {A : Option Addr} {m n : Nat} (hf : Few n) (h : RdI w A m (digs n)) : m ≤ 10000 := Nat.le_trans (digs_le h hf) (by decide)
theorem bigV {n : Nat} {V : List Value} (h : Wv n V) (W : World) : Calls Try.prog 17 #[.agg V.toArray] W (MkB W n) := by
  rw [h.2]; exact big_callsN n W h.1
theorem addV {a b : Nat} (fa : Few a) (fb : Few b) (W : World) (A1 : Option Addr) (n1 c1 : Nat) (A2 : Option Addr) (n2 c2 : Nat) (h1 : RdI W A1 n1 (digs a)) (h2 : RdI W A2 n2 (digs b)) :
    Calls Try.prog 40 #[.slice A1 n1 c1, .slice A2 n2 c2] W (MkB W (a + b)) := badd_calls A1 A2 n1 n2 c1 c2 a b W (fa.le h1) (fb.le h2) h1 h2
theorem mulV {a b : Nat} (fa : Few a) (fb : Few b) (W : World) (A1 : Option Addr) (n1 c1 : Nat) (A2 : Option Addr) (n2 c2 : Nat) (h1 : RdI W A1 n1 (digs a)) (h2 : RdI W A2 n2 (digs b)) :
    Calls Try.prog 32 #[.slice A1 n1 c1, .slice A2 n2 c2] W (MkB W (a * b)) := bmul_calls A1 A2 n1 n2 c1 c2 a b W (fa.le h1) (fb.le h2) h1 h2
theorem lessV {a b : Nat} (fa : Few a) (fb : Few b) (W : World) (A1 : Option Addr) (n1 c1 : Nat) (A2 : Option Addr) (n2 c2 : Nat) (h1 : RdI W A1 n1 (digs a)) (h2 : RdI W A2 n2 (digs b)) (B : Bool) (hB : decide (a < b) = B) :
    Calls Try.prog 29 #[.slice A1 n1 c1, .slice A2 n2 c2] W (Ret W (.bool B)) := by
  rw [← hB]
  exact (bless_calls A1 A2 n1 n2 c1 c2 a b W (fa.le h1) (fb.le h2) h1 h2).mono fun e w' h => ⟨h.1, by obtain ⟨_, n, rfl⟩ := h; exact below_drewN (Below.refl _ _) n⟩
theorem Below.of_drewN (w : World) (n : Nat) : Below w.heap.size w (w.drewN n) := below_drewN (Below.refl _ _) n
end Go.Proofs.Ytdgfgehjnfadnaa
