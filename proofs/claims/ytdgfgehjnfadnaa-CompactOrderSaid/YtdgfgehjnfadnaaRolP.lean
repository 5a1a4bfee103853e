/- Rotations as or of shifts; what a call that only computes ends in. -/
import Derived.Test.YtdgfgehjnfadnaaPlain
import Derived.Test.YtdgfgehjnfadnaaMem
import Derived.Laws.BitsAllLaws
import Derived.WalkKit
import Derived.WalkSpells
import Derived.WalkLawsBesides
import Derived.Lib.Hide
namespace Go.Proofs.Ytdgfgehjnfadnaa
open Go.RowKit

theorem or_rol (B x s : Nat) (hs : s ≤ B) (hx : x < 2 ^ B) : x * 2 ^ s % 2 ^ B ||| x / 2 ^ (B - s) = rol B x s := by
  have h1 : x / 2 ^ (B - s) < 2 ^ s := Nat.div_lt_of_lt_mul (by rw [← split_pow B s hs]; exact hx)
  rw [nat_join s _ _ (by rw [split_pow B s hs, Nat.mul_mod_mul_right]; exact Nat.mul_mod_left _ _) h1, rol_or B x s hs]
/-- What a call that only computes ends in. -/
def Quiet (w : World) (v : Value) (e : Ending) (w' : World) : Prop := e = .returned v ∧ ∃ n, w' = w.drewN n
end Go.Proofs.Ytdgfgehjnfadnaa
