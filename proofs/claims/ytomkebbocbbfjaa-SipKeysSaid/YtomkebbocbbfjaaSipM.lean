/- Plain mathematics of layer 3: the round, the words of a text, the keyed hash. -/
import Derived.Test.YtomkebbocbbfjaaPlain
namespace Go.Proofs.Ytomkebbocbbfjaa

/-- Four numbers. -/
structure Q where
  a : Nat
  b : Nat
  c : Nat
  d : Nat
def Q.ok (q : Q) : Prop := q.a < 2 ^ 64 ∧ q.b < 2 ^ 64 ∧ q.c < 2 ^ 64 ∧ q.d < 2 ^ 64
def add64 (x y : Nat) : Nat := (x + y) % 2 ^ 64
/-- A round. -/
def Q.round (q : Q) : Q :=
  let a1 := add64 q.a q.b
  let b1 := rol 64 q.b 13 ^^^ a1
  let a2 := rol 64 a1 32
  let c1 := add64 q.c q.d
  let d1 := rol 64 q.d 16 ^^^ c1
  let a3 := add64 a2 d1
  let c2 := add64 c1 b1
  ⟨a3, rol 64 b1 17 ^^^ c2, rol 64 c2 32, rol 64 d1 21 ^^^ a3⟩
theorem add64_lt (x y : Nat) : add64 x y < 2 ^ 64 := Nat.mod_lt _ (by decide)
theorem xor64_lt {x y : Nat} (hx : x < 2 ^ 64) (hy : y < 2 ^ 64) : x ^^^ y < 2 ^ 64 := Nat.xor_lt_two_pow hx hy
theorem Q.round_ok (q : Q) (h : q.ok) : q.round.ok := by
  obtain ⟨_, hb, _, hd⟩ := h
  have h1 : rol 64 q.b 13 ^^^ add64 q.a q.b < 2 ^ 64 := xor64_lt (rol_lt 64 _ _ (by omega) hb) (add64_lt _ _)
  have h2 : rol 64 q.d 16 ^^^ add64 q.c q.d < 2 ^ 64 := xor64_lt (rol_lt 64 _ _ (by omega) hd) (add64_lt _ _)
  exact ⟨add64_lt _ _, xor64_lt (rol_lt 64 _ _ (by omega) h1) (add64_lt _ _), rol_lt 64 _ _ (by omega) (add64_lt _ _), xor64_lt (rol_lt 64 _ _ (by omega) h2) (add64_lt _ _)⟩
/-- n rounds. -/
def Q.rounds : Nat → Q → Q
  | 0, q => q
  | n + 1, q => (Q.rounds n q).round
theorem Q.rounds_ok (n : Nat) (q : Q) (h : q.ok) : (Q.rounds n q).ok := by
  induction n with
  | zero => exact h
  | succ n ih => exact Q.round_ok _ ih
/-- The last number with m, the first with m. -/
def Q.xd (q : Q) (m : Nat) : Q := ⟨q.a, q.b, q.c, q.d ^^^ m⟩
def Q.xa (q : Q) (m : Nat) : Q := ⟨q.a ^^^ m, q.b, q.c, q.d⟩
def Q.xc (q : Q) (m : Nat) : Q := ⟨q.a, q.b, q.c ^^^ m, q.d⟩
def Q.fold (q : Q) : Nat := q.a ^^^ q.b ^^^ q.c ^^^ q.d
theorem Q.xd_ok {q : Q} {m : Nat} (h : q.ok) (hm : m < 2 ^ 64) : (q.xd m).ok := ⟨h.1, h.2.1, h.2.2.1, xor64_lt h.2.2.2 hm⟩
theorem Q.xa_ok {q : Q} {m : Nat} (h : q.ok) (hm : m < 2 ^ 64) : (q.xa m).ok := ⟨xor64_lt h.1 hm, h.2.1, h.2.2.1, h.2.2.2⟩
theorem Q.xc_ok {q : Q} {m : Nat} (h : q.ok) (hm : m < 2 ^ 64) : (q.xc m).ok := ⟨h.1, h.2.1, xor64_lt h.2.2.1 hm, h.2.2.2⟩
theorem Q.fold_lt {q : Q} (h : q.ok) : q.fold < 2 ^ 64 := xor64_lt (xor64_lt (xor64_lt h.1 h.2.1) h.2.2.1) h.2.2.2
/-- A word m is taken. -/
def Q.take (q : Q) (m : Nat) : Q := (Q.rounds 2 (q.xd m)).xa m
theorem Q.take_ok (q : Q) (m : Nat) (h : q.ok) (hm : m < 2 ^ 64) : (q.take m).ok := Q.xa_ok (Q.rounds_ok 2 _ (Q.xd_ok h hm)) hm
/-- The end. -/
def Q.fin (q : Q) : Nat := (Q.rounds 4 (q.xc 255)).fold
theorem Q.fin_lt (q : Q) (h : q.ok) : q.fin < 2 ^ 64 := Q.fold_lt (Q.rounds_ok 4 _ (Q.xc_ok h (by decide)))
def Q.start (k l : Nat) : Q := ⟨k ^^^ 8317987319222330741, l ^^^ 7237128888997146477, k ^^^ 7816392313619706465, l ^^^ 8387220255154660723⟩
theorem Q.start_ok (k l : Nat) (hk : k < 2 ^ 64) (hl : l < 2 ^ 64) : (Q.start k l).ok :=
  ⟨xor64_lt hk (by decide), xor64_lt hl (by decide), xor64_lt hk (by decide), xor64_lt hl (by decide)⟩
/-- The word i of a text. -/
def wordAt (b : List UInt8) (i : Nat) : Nat := numL ((b.drop (8 * i)).take 8)
theorem numL_lt8 (l : List UInt8) : numL (l.take 8) < 2 ^ 64 := by
  have h := numL_lt (l.take 8)
  have h2 : (l.take 8).length ≤ 8 := by rw [List.length_take]; omega
  have h3 := Nat.pow_le_pow_right (n := 256) (by omega) h2
  have e : 256 ^ 8 = 2 ^ 64 := by decide
  omega
theorem wordAt_lt (b : List UInt8) (i : Nat) : wordAt b i < 2 ^ 64 := numL_lt8 _
/-- The state behind the first n words. -/
def Q.words (q : Q) (b : List UInt8) : Nat → Q
  | 0 => q
  | n + 1 => (Q.words q b n).take (wordAt b n)
theorem Q.words_ok (q : Q) (b : List UInt8) (n : Nat) (h : q.ok) : (Q.words q b n).ok := by
  induction n with
  | zero => exact h
  | succ n ih => exact Q.take_ok _ _ ih (wordAt_lt _ _)
/-- The last word. -/
def lastW (b : List UInt8) : Nat := numL (b.drop (8 * (b.length / 8))) + 2 ^ 56 * (b.length % 256)
theorem rest_lt (b : List UInt8) : numL (b.drop (8 * (b.length / 8))) < 2 ^ 56 := by
  have h := numL_lt (b.drop (8 * (b.length / 8)))
  have h2 : (b.drop (8 * (b.length / 8))).length ≤ 7 := by rw [List.length_drop]; omega
  have h3 := Nat.pow_le_pow_right (n := 256) (by omega) h2
  have e : 256 ^ 7 = 2 ^ 56 := by decide
  omega
theorem lastW_lt (b : List UInt8) : lastW b < 2 ^ 64 := by
  have := rest_lt b
  unfold lastW
  omega
/-- The keyed hash. -/
def sipH (k l : Nat) (b : List UInt8) : Nat := ((Q.words (Q.start k l) b (b.length / 8)).take (lastW b)).fin
theorem sipH_lt (k l : Nat) (b : List UInt8) (hk : k < 2 ^ 64) (hl : l < 2 ^ 64) : sipH k l b < 2 ^ 64 :=
  Q.fin_lt _ (Q.take_ok _ _ (Q.words_ok _ _ _ (Q.start_ok k l hk hl)) (lastW_lt b))
theorem sip_example : sipH 506097522914230528 1084818905618843912 (little 0 0 ++ [0, 1, 2, 3, 4, 5, 6, 7, 8, 9, 10, 11, 12, 13, 14]) = 11613035633349379557 := by decide +kernel
end Go.Proofs.Ytomkebbocbbfjaa
