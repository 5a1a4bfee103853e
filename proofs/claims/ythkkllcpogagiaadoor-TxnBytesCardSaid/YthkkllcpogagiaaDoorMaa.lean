/- Merged texts: Mem Plain Clamp NumP Great Big RolP Right32 Ret. -/
import Derived.Test.YthkkllcpogagiaaDoorProg
import Derived.WalkKit
import Derived.Below
import Derived.Laws.OwnMore
import Derived.Laws.IdiomStrings
import Derived.Laws.BytesArg
import Derived.Deep.OwnRows
import Derived.Deep.Draws
import Derived.Deep.AppendLies
import Derived.PlainAid
import Derived.WalkSpells
import Derived.WalkLawsBesides
import Derived.Lib.Hide
import Derived.Laws.BitsAllLaws
import Derived.Deep.QuietTactic
import Derived.BigQuiet
/- Words for byte slices in memory: what a slice that is read holds (Rd), what a slice that a call made holds (Own), and how both are carried from world to world. -/
namespace Go.Proofs.YthkkllcpogagiaaDoor
open Go.RowKit

set_option maxRecDepth 100000 in
theorem info8 : (Tryd.prog.info? 5).map (fun i => (i.zero, i.size, i.bytes)) = some (some (.int .u8 0), 1, 1) := by kernel_rfl

/-- A byte as a cell holds it. -/
def B8 (c : UInt8) : Value := .int .u8 (c.toNat : Int)

/-- The slice of n bytes that begins at A holds the bytes l. -/
def Rd (w : World) (A : Option Addr) (n : Nat) (l : List UInt8) : Prop :=
  l.length = n ∧ (0 < n → ∃ b off, A = some ⟨b, off, none⟩ ∧ b < w.heap.size ∧ ∀ j (h : j < l.length), w.cell? ⟨b, off + j, none⟩ = some (.int .u8 (l[j].toNat : Int)))

set_option maxRecDepth 100000 in
theorem Rd.len {w : World} {A : Option Addr} {n : Nat} {l : List UInt8} (h : Rd w A n l) : l.length = n := h.1
set_option maxRecDepth 100000 in
theorem Rd.nil (w : World) (A : Option Addr) : Rd w A 0 [] := ⟨rfl, fun h => absurd h (by omega)⟩
set_option maxRecDepth 100000 in
theorem Rd.at_ {w : World} {A : Option Addr} {n : Nat} {l : List UInt8} (h : Rd w A n l) {k : Nat} (hk : k < n) :
    ∃ b off, ∃ hl : k < l.length, A = some ⟨b, off, none⟩ ∧ b < w.heap.size ∧ w.cell? ⟨b, off + k, none⟩ = some (.int .u8 (l[k].toNat : Int)) := by
  obtain ⟨b, off, e, hb, hc⟩ := h.2 (by omega)
  have hl : k < l.length := by have := h.1; omega
  exact ⟨b, off, hl, e, hb, hc k hl⟩
set_option maxRecDepth 100000 in
theorem Rd.keep {w w' : World} {A : Option Addr} {n : Nat} {l : List UInt8} (h : Rd w A n l) (hs : w.heap.size ≤ w'.heap.size)
    (hk : ∀ p : Addr, p.block < w.heap.size → w'.cell? p = w.cell? p) : Rd w' A n l :=
  ⟨h.1, fun hn => by
    obtain ⟨b, off, e, hb, hc⟩ := h.2 hn
    exact ⟨b, off, e, by omega, fun j hj => (hk _ hb).trans (hc j hj)⟩⟩
set_option maxRecDepth 100000 in
theorem Rd.below {w w' : World} {A : Option Addr} {n : Nat} {l : List UInt8} (h : Rd w A n l) (hb : Below w.heap.size w w') : Rd w' A n l :=
  h.keep hb.size fun _ hp => hb.cell hp
set_option maxRecDepth 100000 in
theorem Rd.drewN {w : World} {A : Option Addr} {n : Nat} {l : List UInt8} (h : Rd w A n l) (k : Nat) : Rd (w.drewN k) A n l := h
set_option maxRecDepth 100000 in
theorem Rd.take {w : World} {A : Option Addr} {n : Nat} {l : List UInt8} (h : Rd w A n l) {k : Nat} (hk : k ≤ n) : Rd w A k (l.take k) := by
  have hl := h.1
  refine ⟨by rw [List.length_take]; omega, fun hn => ?_⟩
  obtain ⟨b, off, e, hb, hc⟩ := h.2 (by omega)
  refine ⟨b, off, e, hb, fun j hj => ?_⟩
  rw [List.length_take] at hj
  rw [List.getElem_take]
  exact hc j (by omega)

/-- The slice of n bytes that begins at A was made by the call (its block is not below base) and holds the bytes l. -/
def Own (w : World) (base : Nat) (A : Option Addr) (n c : Nat) (l : List UInt8) : Prop := l.length = n ∧ w.ownsRow base 5 1 (.slice A n c) n (l.map B8)

set_option maxRecDepth 100000 in
theorem Own.len {w : World} {base n c : Nat} {A : Option Addr} {l : List UInt8} (h : Own w base A n c l) : l.length = n := h.1
set_option maxRecDepth 100000 in
theorem Own.rd {w : World} {base n c : Nat} {A : Option Addr} {l : List UInt8} (h : Own w base A n c l) : Rd w A n l := by
  obtain ⟨hl, h⟩ := h
  refine ⟨hl, fun hn => ?_⟩
  obtain ⟨g, cap, hv, _, hlt⟩ := World.ownsRow.form h hn
  have hA : A = some ⟨g, 0, none⟩ := by injection hv
  subst hA
  refine ⟨g, 0, rfl, hlt, fun j hj => ?_⟩
  have := World.ownsRow.cellAt h j (by omega)
  rw [Nat.zero_add, this]
  simp [List.getElem?_eq_getElem hj, B8]
set_option maxRecDepth 100000 in
theorem Own.cell {w : World} {base n c g : Nat} {l : List UInt8} (h : Own w base (some ⟨g, 0, none⟩) n c l) {k : Nat} (hk : k < l.length) : w.cell? ⟨g, k, none⟩ = some (.int .u8 (l[k].toNat : Int)) := by
  have := World.ownsRow.cellAt h.2 k (by have := h.1; omega)
  rw [this]
  simp [List.getElem?_eq_getElem hk, B8]
set_option maxRecDepth 100000 in
theorem Own.free {w : World} {base n c g : Nat} {l : List UInt8} (h : Own w base (some ⟨g, 0, none⟩) n c l) (k : Nat) : w.frozen? ⟨g, k, none⟩ = false := World.ownsRow.frozenAt h.2 k

set_option maxRecDepth 100000 in
theorem map_set_B8 (l : List UInt8) (j : Nat) (c : UInt8) : (l.map B8).set j (B8 c) = (l.set j c).map B8 := by rw [List.map_set]

set_option maxRecDepth 100000 in
theorem Own.set {w : World} {base g n cap : Nat} {l : List UInt8} (h : Own w base (some ⟨g, 0, none⟩) n cap l) (j : Nat) (c : UInt8) :
    Own (w.setCell ⟨g, j, none⟩ (.int .u8 (c.toNat : Int))) base (some ⟨g, 0, none⟩) n cap (l.set j c) := by
  refine ⟨by rw [List.length_set]; exact h.1, ?_⟩
  have := (World.ownsRow.stored h.2 j (B8 c)).1
  rw [map_set_B8] at this
  exact this

set_option maxRecDepth 100000 in
theorem Own.made (w : World) (n : Nat) (hn : n ≤ maxLen) : Own (w.alloc (.cells (madeCells #[.int .u8 0] n) 5)) w.heap.size (some ⟨w.heap.size, 0, none⟩) n n (List.replicate n 0) := by
  refine ⟨List.length_replicate, ?_⟩
  have := World.ownsRow_lit (base := w.heap.size) (e := 5) (size := 1) w (madeCells #[.int .u8 0] n) n (Nat.le_refl _) hn (by rw [size_madeCells, Nat.mul_one])
  rw [toList_madeCells_one] at this
  rw [List.map_replicate]
  exact this

set_option maxRecDepth 100000 in
theorem run_mk8 (n : Nat) (hn : n ≤ 281474976710656) (w : World) :
    (Instr.makeSlice 28 (.int .i64 (n : Int)) (.int .i64 (n : Int))).run Tryd.prog w = .ok (.slice (some ⟨w.heap.size, 0, none⟩) n n) (w.alloc (.cells (madeCells #[.int .u8 0] n) 5)) :=
  run_make_row' 28 5 (.int .u8 0) 1 Tryd.underlying28 info8 rfl .i64 .i64 n (by omega) (by omega) w

/-- What a call that makes a byte slice ends in: the slice holds l, and nothing that was there has changed. -/
def Mk (w : World) (l : List UInt8) (e : Ending) (w' : World) : Prop :=
  ∃ A n c, e = .returned (.slice A n c) ∧ Own w' w.heap.size A n c l ∧ Below w.heap.size w w'
end Go.Proofs.YthkkllcpogagiaaDoor

/- Plain mathematics of layer 1: the bytes of a number, the number of bytes. Nothing of the program is named here. -/
namespace Go.Proofs.YthkkllcpogagiaaDoor

/-- The k lowest bytes of n, the lowest first. -/
def little (n k : Nat) : List UInt8 := (List.range k).map fun i => UInt8.ofNat (n / 256 ^ i)
/-- The same, the highest first. -/
def great (n k : Nat) : List UInt8 := (little n k).reverse
/-- The number of bytes, the lowest first. -/
def numL : List UInt8 → Nat
  | [] => 0
  | c :: r => c.toNat + 256 * numL r

set_option maxRecDepth 100000 in
@[simp] theorem little_len (n k : Nat) : (little n k).length = k := by simp [little]
set_option maxRecDepth 100000 in
@[simp] theorem great_len (n k : Nat) : (great n k).length = k := by simp [great]
set_option maxRecDepth 100000 in
theorem little_get (n k i : Nat) (h : i < (little n k).length) : (little n k)[i] = UInt8.ofNat (n / 256 ^ i) := by simp [little]
set_option maxRecDepth 100000 in
theorem great_get (n k i : Nat) (h : i < (great n k).length) : (great n k)[i] = UInt8.ofNat (n / 256 ^ (k - 1 - i)) := by
  simp [great, little_get]
set_option maxRecDepth 100000 in
theorem little_succ (n k : Nat) : little n (k + 1) = UInt8.ofNat n :: little (n / 256) k := by
  unfold little
  rw [List.range_succ_eq_map, List.map_cons, List.map_map]
  congr 1
  · simp
  · apply List.map_congr_left
    intro i _
    simp only [Function.comp, Nat.pow_succ]
    rw [Nat.div_div_eq_div_mul, Nat.mul_comm]
set_option maxRecDepth 100000 in
theorem ofNat_toNat (n : Nat) : (UInt8.ofNat n).toNat = n % 256 := by simp
set_option maxRecDepth 100000 in
theorem numL_little (n k : Nat) : numL (little n k) = n % 256 ^ k := by
  induction k generalizing n with
  | zero => simp [little, numL, Nat.mod_one]
  | succ k ih =>
    rw [little_succ, numL, ih, ofNat_toNat, Nat.pow_succ, Nat.mul_comm (256 ^ k) 256, Nat.mod_mul]
set_option maxRecDepth 100000 in
theorem numL_lt (l : List UInt8) : numL l < 256 ^ l.length := by
  induction l with
  | nil => simp [numL]
  | cons c r ih =>
    have := c.toNat_lt
    simp only [numL, List.length_cons, Nat.pow_succ]
    omega
set_option maxRecDepth 100000 in
theorem numL_append (l r : List UInt8) : numL (l ++ r) = numL l + 256 ^ l.length * numL r := by
  induction l with
  | nil => simp [numL]
  | cons c l ih =>
    simp only [List.cons_append, numL, ih, List.length_cons, Nat.pow_succ, Nat.mul_add]
    rw [Nat.mul_comm (256 ^ l.length) 256, Nat.mul_assoc]
    omega
set_option maxRecDepth 100000 in
theorem pow8 (t : Nat) : 2 ^ (8 * t) = 256 ^ t := by rw [Nat.pow_mul]
set_option maxRecDepth 100000 in
theorem byte_at (n t : Nat) : (n : Int) / 2 ^ (8 * t) % 256 = ((UInt8.ofNat (n / 256 ^ t)).toNat : Int) := by
  rw [ofNat_toNat, ← pow8, Int.natCast_emod, Int.natCast_ediv, Int.natCast_pow]
  rfl

/-- x, of B bits, rotated left by s. -/
def rol (B x s : Nat) : Nat := x % 2 ^ (B - s) * 2 ^ s + x / 2 ^ (B - s)
set_option maxRecDepth 100000 in
theorem split_pow (B s : Nat) (h : s ≤ B) : 2 ^ B = 2 ^ (B - s) * 2 ^ s := by rw [← Nat.pow_add]; congr 1; omega
set_option maxRecDepth 100000 in
theorem rol_parts (B s h l : Nat) (hl : l < 2 ^ (B - s)) : rol B (h * 2 ^ (B - s) + l) s = l * 2 ^ s + h := by
  unfold rol
  rw [Nat.mul_comm h, Nat.mul_add_mod, Nat.mod_eq_of_lt hl, Nat.mul_add_div (Nat.pow_pos (by omega)), Nat.div_eq_of_lt hl]
  rfl
set_option maxRecDepth 100000 in
theorem rol_zero (B x : Nat) (hx : x < 2 ^ B) : rol B x 0 = x := by
  unfold rol
  rw [Nat.sub_zero, Nat.mod_eq_of_lt hx, Nat.div_eq_of_lt hx]; simp
set_option maxRecDepth 100000 in
theorem rol_lt (B x s : Nat) (hs : s ≤ B) (hx : x < 2 ^ B) : rol B x s < 2 ^ B := by
  unfold rol
  rw [split_pow B s hs] at hx ⊢
  have h1 : x / 2 ^ (B - s) < 2 ^ s := Nat.div_lt_of_lt_mul hx
  have h2 : x % 2 ^ (B - s) < 2 ^ (B - s) := Nat.mod_lt _ (Nat.pow_pos (by omega))
  calc x % 2 ^ (B - s) * 2 ^ s + x / 2 ^ (B - s) < x % 2 ^ (B - s) * 2 ^ s + 2 ^ s := by omega
    _ = (x % 2 ^ (B - s) + 1) * 2 ^ s := by rw [Nat.add_mul, Nat.one_mul]
    _ ≤ 2 ^ (B - s) * 2 ^ s := Nat.mul_le_mul_right _ h2
set_option maxRecDepth 100000 in
theorem rol_back (B x s : Nat) (hs : s ≤ B) (hx : x < 2 ^ B) : rol B (rol B x s) (B - s) = x := by
  have h1 : x / 2 ^ (B - s) < 2 ^ s := Nat.div_lt_of_lt_mul (by rw [← split_pow B s hs]; exact hx)
  have e : B - (B - s) = s := by omega
  have h := rol_parts B (B - s) (x % 2 ^ (B - s)) (x / 2 ^ (B - s)) (by rw [e]; exact h1)
  rw [e] at h
  show rol B (x % 2 ^ (B - s) * 2 ^ s + x / 2 ^ (B - s)) (B - s) = x
  rw [h]
  rw [Nat.mul_comm]
  exact Nat.div_add_mod x _
set_option maxRecDepth 100000 in
theorem rol_or (B x s : Nat) (hs : s ≤ B) : (x * 2 ^ s % 2 ^ B) + x / 2 ^ (B - s) = rol B x s := by
  unfold rol
  rw [split_pow B s hs, Nat.mul_mod_mul_right]
set_option maxRecDepth 100000 in
theorem rol_step (B x s : Nat) (hs : s < B) (hx : x < 2 ^ B) : rol B x s % 2 ^ (B - 1) * 2 + rol B x s / 2 ^ (B - 1) = rol B x (s + 1) := by
  have hp : 2 ^ (B - s) = 2 ^ (B - (s + 1)) * 2 := by rw [← Nat.pow_succ]; congr 1; omega
  have hB : 2 ^ (B - 1) = 2 ^ (B - (s + 1)) * 2 ^ s := by rw [← Nat.pow_add]; congr 1; omega
  have h1 : x / 2 ^ (B - s) < 2 ^ s := Nat.div_lt_of_lt_mul (by rw [← split_pow B s (by omega)]; exact hx)
  obtain ⟨h, hh⟩ : ∃ h, h = x / 2 ^ (B - s) := ⟨_, rfl⟩
  obtain ⟨l, hl⟩ : ∃ l, l = x % 2 ^ (B - s) := ⟨_, rfl⟩
  obtain ⟨l1, hl1⟩ : ∃ l1, l1 = l / 2 ^ (B - (s + 1)) := ⟨_, rfl⟩
  obtain ⟨l0, hl0⟩ : ∃ l0, l0 = l % 2 ^ (B - (s + 1)) := ⟨_, rfl⟩
  have hpos : 0 < 2 ^ (B - (s + 1)) := Nat.pow_pos (by omega)
  have hl0lt : l0 < 2 ^ (B - (s + 1)) := by rw [hl0]; exact Nat.mod_lt _ hpos
  have hlsplit : l = l1 * 2 ^ (B - (s + 1)) + l0 := by rw [hl1, hl0, Nat.mul_comm]; exact (Nat.div_add_mod l _).symm
  have hxsplit : x = h * 2 ^ (B - s) + l := by rw [hh, hl, Nat.mul_comm]; exact (Nat.div_add_mod x _).symm
  have hr : rol B x s = l * 2 ^ s + h := by unfold rol; rw [hh, hl]
  have hlow : l0 * 2 ^ s + h < 2 ^ (B - 1) := by
    rw [hB]
    calc l0 * 2 ^ s + h < l0 * 2 ^ s + 2 ^ s := by omega
      _ = (l0 + 1) * 2 ^ s := by rw [Nat.add_mul, Nat.one_mul]
      _ ≤ 2 ^ (B - (s + 1)) * 2 ^ s := Nat.mul_le_mul_right _ hl0lt
  have hr2 : rol B x s = 2 ^ (B - 1) * l1 + (l0 * 2 ^ s + h) := by
    rw [hr, hlsplit, hB, Nat.add_mul, Nat.mul_comm l1, Nat.mul_assoc, Nat.mul_assoc, Nat.mul_comm l1, Nat.add_assoc]
  have hx2 : x = (2 * h + l1) * 2 ^ (B - (s + 1)) + l0 := by
    rw [hxsplit, hlsplit, hp, Nat.add_mul, ← Nat.mul_assoc, Nat.mul_assoc 2 h, Nat.mul_comm (h * _) 2, Nat.add_assoc]
  rw [hr2, Nat.mul_add_mod, Nat.mod_eq_of_lt hlow, Nat.mul_add_div (Nat.pow_pos (by omega)), Nat.div_eq_of_lt hlow]
  conv => rhs; rw [hx2]
  rw [rol_parts B (s + 1) _ _ hl0lt, Nat.add_mul, Nat.mul_assoc, ← Nat.pow_succ, Nat.succ_eq_add_one]
  omega
end Go.Proofs.YthkkllcpogagiaaDoor

/- The contract of octet.clampWidth: a width is clamped to 0 and 8, and the world stays. -/
namespace Go.Proofs.YthkkllcpogagiaaDoor
open Go.RowKit

/-- A width within 0 and 8. -/
def cw (k : Int) : Int := if k < 0 then 0 else if 8 < k then 8 else k
set_option maxRecDepth 100000 in
theorem cw_bd (k : Int) : 0 ≤ cw k ∧ cw k ≤ 8 := by unfold cw; split <;> (try split) <;> omega
set_option maxRecDepth 100000 in
theorem clamp_any (k : Int) (w : World) : Calls Tryd.prog 42 #[.int .i64 k] w fun e w' => e = .returned (.int .i64 (cw k)) ∧ w = w' := by
  unfold cw
  by_cases h : k < 0
  · go_enter Tryd.func42, Tryd.ntmps42
    go_wp2
    go_ret
    exact ⟨rfl, rfl⟩
  · by_cases h8 : 8 < k
    · go_enter Tryd.func42, Tryd.ntmps42
      go_wp2
      go_ret
      exact ⟨rfl, rfl⟩
    · go_enter Tryd.func42, Tryd.ntmps42
      go_wp2
      go_ret
      exact ⟨rfl, rfl⟩

set_option maxRecDepth 100000 in
theorem clamp_nat (k : Int) (m : Nat) (h : cw k = m) (w : World) : Calls Tryd.prog 42 #[.int .i64 k] w fun e w' => e = .returned (.int .i64 (m : Int)) ∧ w = w' := by
  rw [← h]; exact clamp_any k w

set_option maxRecDepth 100000 in
theorem cw_nat (n : Nat) : cw (n : Int) = ((min n 8 : Nat) : Int) := by unfold cw; split <;> (try split) <;> omega
end Go.Proofs.YthkkllcpogagiaaDoor

/- Plain facts for numbers of bytes in 64 bits. -/
namespace Go.Proofs.YthkkllcpogagiaaDoor
open Go.RowKit

set_option maxRecDepth 100000 in
theorem take_snoc (l : List UInt8) (t : Nat) (h : t < l.length) : l.take (t + 1) = l.take t ++ [l[t]] := List.take_succ_eq_append_getElem h
set_option maxRecDepth 100000 in
theorem pow_le64 (t : Nat) (ht : t ≤ 8) : 256 ^ t ≤ 18446744073709551616 := by
  have := Nat.pow_le_pow_right (n := 256) (by omega) ht
  have e : 256 ^ 8 = 18446744073709551616 := by decide
  omega
set_option maxRecDepth 100000 in
theorem wrap64_nat (z : Nat) (h : z < 18446744073709551616) : IntKind.u64.wrap (z : Int) = (z : Int) := by
  rw [IntKind.wrap_u64]
  omega
set_option maxRecDepth 100000 in
theorem pow_lt56 (t : Nat) (ht : t ≤ 7) : 256 ^ t ≤ 72057594037927936 := by
  have := Nat.pow_le_pow_right (n := 256) (by omega) ht
  have e : 256 ^ 7 = 72057594037927936 := by decide
  omega
end Go.Proofs.YthkkllcpogagiaaDoor

/- The contract of octet.Great: new memory that holds the bytes of a number, the highest first. -/
namespace Go.Proofs.YthkkllcpogagiaaDoor
open Go.RowKit

/-- What stands in the slice while Great goes: the last i of the m bytes. -/
def gpart (n m i : Nat) : List UInt8 := List.replicate (m - i) 0 ++ great n i
set_option maxRecDepth 100000 in
@[simp] theorem gpart_len (n m i : Nat) (h : i ≤ m) : (gpart n m i).length = m := by simp [gpart]; omega
set_option maxRecDepth 100000 in
theorem gpart_set (n m i : Nat) (h : i < m) : (gpart n m i).set (m - 1 - i) (UInt8.ofNat (n / 256 ^ i)) = gpart n m (i + 1) := by
  unfold gpart
  rw [List.set_append_left _ _ (by simp; omega)]
  rw [show m - i = (m - (i + 1)) + 1 from by omega, List.replicate_succ']
  rw [List.set_append_right _ _ (by simp; omega)]
  simp [great, little, List.range_succ, show m - 1 - i - (m - (i + 1)) = 0 from by omega]
set_option maxRecDepth 100000 in
set_option maxHeartbeats 400000 in
theorem great_calls (n : Nat) (k : Int) (m : Nat) (hm : cw k = m) (w : World) :
    Calls Tryd.prog 51 #[.int .u64 (n : Int), .int .i64 k] w (Mk w (great n m)) := by
  have hm8 : m ≤ 8 := by have := cw_bd k; omega
  have H := Lib.hid hm
  clear hm
  have hmk := fun W => run_mk8 m (by omega) W
  go_enter Tryd.func51, Tryd.ntmps51
  go_wp2_with (go_at_call 42; refine (clamp_nat _ _ H.out _).mono ?_; rintro e w' ⟨rfl, rfl⟩)
  go_loopw [12] (fun i wr => ∃ t : Nat, t ≤ m ∧ i = .int .i64 t ∧ Own wr w.heap.size (some ⟨w.heap.size, 0, none⟩) m m (gpart n m t) ∧ Below w.heap.size w wr) (fun i _ => m - (intOf i).toNat)
  case atStart =>
    refine ⟨0, Nat.zero_le _, rfl, ?_, (Below.refl _ _).alloc (Nat.le_refl _) _⟩
    have := Own.made w m (by unfold maxLen; omega)
    simpa [gpart, great, little] using this
  case round =>
    obtain ⟨t, ht, rfl, hown, hbel⟩ := hrel
    by_cases hlt : t < m
    · have hl : m - 1 - t < (gpart n m t).length := by rw [gpart_len n m t ht]; omega
      have hc := hown.cell hl
      have hf := hown.free (m - 1 - t)
      have HO := Lib.hid hown
      clear hown
      go_wp2
      go_roundw
      case rel =>
        have h1 := HO.out.set (m - 1 - t) (UInt8.ofNat (n / 256 ^ t))
        rw [gpart_set n m t hlt, ← byte_at] at h1
        exact ⟨t + 1, by omega, by go_num, h1, hbel.setCell (Nat.le_refl _) _⟩
      case measure => simp [intOf]; omega
    · have e : t = m := by omega
      subst e
      have HO := Lib.hid hown
      clear hown
      go_wp2
      go_ret
      have hx : gpart n t t = great n t := by simp [gpart]
      rw [hx] at HO
      exact ⟨_, _, _, rfl, HO.out, hbel⟩
end Go.Proofs.YthkkllcpogagiaaDoor

/- The contract of octet.Big: the number of the first eight bytes, the highest first. -/
namespace Go.Proofs.YthkkllcpogagiaaDoor
open Go.RowKit

set_option maxRecDepth 100000 in
theorem big_or (x c : Nat) (hx : x < 72057594037927936) (hc : c < 256) : bits .or .u64 (IntKind.u64.wrap ((x : Int) * 256)) (c : Int) = ((c + 256 * x : Nat) : Int) := by
  have e : (x : Int) * 256 = ((x * 256 : Nat) : Int) := by omega
  rw [e, wrap64_nat _ (by omega), u64_or_nat _ _ (by omega) (by omega)]
  congr 1
  rw [nat_join 8 (x * 256) c (by show x * 256 % 256 = 0; exact Nat.mul_mod_left _ _) (by show c < 256; exact hc)]
  omega
set_option maxRecDepth 100000 in
theorem big_step (l : List UInt8) (t : Nat) (hl : t < l.length) (ht : t < 8) :
    bits .or .u64 (IntKind.u64.wrap ((numL (l.take t).reverse : Int) * 256)) (l[t].toNat : Int) = (numL (l.take (t + 1)).reverse : Int) := by
  have hx := numL_lt (l.take t).reverse
  rw [List.length_reverse, List.length_take, Nat.min_eq_left (by omega)] at hx
  have := pow_lt56 t (by omega)
  rw [big_or _ _ (by omega) l[t].toNat_lt, take_snoc l t hl, List.reverse_append]
  rfl
set_option maxRecDepth 100000 in
set_option maxHeartbeats 400000 in
theorem big_calls (A : Option Addr) (n c : Nat) (l : List UInt8) (w : World) (hr : Rd w A n l) :
    Calls Tryd.prog 55 #[.slice A n c] w fun e w' => e = .returned (.int .u64 (numL (l.take 8).reverse : Int)) ∧ w = w' := by
  have hl := hr.len
  obtain ⟨m, hm⟩ : ∃ m, m = min n 8 := ⟨_, rfl⟩
  have hm8 : m ≤ 8 := by omega
  have hmn : m ≤ n := by omega
  have hc : cw (n : Int) = (m : Int) := by rw [hm]; exact cw_nat n
  have HM := Lib.hid hm
  have HC := Lib.hid hc
  have HL := Lib.hid hl
  have HR := Lib.hid hr
  clear hm hc hl hr
  go_enter Tryd.func55, Tryd.ntmps55
  go_wp2_with (go_at_call 42; refine (clamp_nat _ _ HC.out _).mono ?_; rintro e w' ⟨rfl, rfl⟩)
  go_loop [3, 8] (fun v i => ∃ t : Nat, t ≤ m ∧ i = .int .i64 t ∧ v = .int .u64 (numL (l.take t).reverse : Int)) (fun _ i => m - (intOf i).toNat)
  case atStart => exact ⟨0, Nat.zero_le _, rfl, rfl⟩
  case round =>
    obtain ⟨t, ht, rfl, rfl⟩ := hrel
    by_cases hlt : t < m
    · obtain ⟨b, off, hl, rfl, _, hcell⟩ := HR.out.at_ (k := t) (by omega)
      have hb := l[t].toNat_lt
      go_wp2
      go_round
      case rel => exact ⟨t + 1, by omega, by go_num, by rw [big_step l t hl (by omega)]⟩
      case measure => simp [intOf]; omega
    · have e : t = m := by omega
      subst e
      go_wp2
      go_ret
      have hx : l.take t = l.take 8 := by
        have h1 := HM.out
        have h2 := HL.out
        by_cases h8 : n ≤ 8
        · rw [List.take_of_length_le (by omega), List.take_of_length_le (by omega)]
        · rw [h1, Nat.min_eq_right (by omega)]
      rw [← hx]
      exact ⟨rfl, rfl⟩
end Go.Proofs.YthkkllcpogagiaaDoor

/- Rotations as or of shifts; what a call that only computes ends in. -/
namespace Go.Proofs.YthkkllcpogagiaaDoor
open Go.RowKit

set_option maxRecDepth 100000 in
theorem or_rol (B x s : Nat) (hs : s ≤ B) (hx : x < 2 ^ B) : x * 2 ^ s % 2 ^ B ||| x / 2 ^ (B - s) = rol B x s := by
  have h1 : x / 2 ^ (B - s) < 2 ^ s := Nat.div_lt_of_lt_mul (by rw [← split_pow B s hs]; exact hx)
  rw [nat_join s _ _ (by rw [split_pow B s hs, Nat.mul_mod_mul_right]; exact Nat.mul_mod_left _ _) h1, rol_or B x s hs]
/-- What a call that only computes ends in. -/
def Quiet (w : World) (v : Value) (e : Ending) (w' : World) : Prop := e = .returned v ∧ ∃ n, w' = w.drewN n
end Go.Proofs.YthkkllcpogagiaaDoor

/- The contract of octet.Right32: a word rotated to the right. -/
namespace Go.Proofs.YthkkllcpogagiaaDoor
open Go.RowKit

set_option maxRecDepth 100000 in
theorem ro32 (x s : Nat) (hs : s ≤ 32) (hx : x < 4294967296) : bits .or .u32 ((x : Int) / 2 ^ s) ((x : Int) * 2 ^ (32 - s) % 4294967296) = (rol 32 x (32 - s) : Int) := by
  have e1 : (x : Int) * 2 ^ (32 - s) % 4294967296 = ((x * 2 ^ (32 - s) % 2 ^ 32 : Nat) : Int) := by
    rw [Int.natCast_emod, Int.natCast_mul, Int.natCast_pow]; rfl
  have e2 : (x : Int) / 2 ^ s = ((x / 2 ^ s : Nat) : Int) := by rw [Int.natCast_ediv, Int.natCast_pow]; rfl
  have h2 : x / 2 ^ s ≤ x := Nat.div_le_self _ _
  have h3 := or_rol 32 x (32 - s) (by omega) hx
  rw [show 32 - (32 - s) = s from by omega] at h3
  rw [e1, e2, u32_or_nat _ _ (by omega) (Nat.mod_lt _ (by decide)), Nat.or_comm, h3]
set_option maxRecDepth 100000 in
theorem and31 (k : Int) : bits .and .i64 k 31 = k % 32 := by
  show IntKind.i64.wrap ((BitVec.ofInt 64 k &&& BitVec.ofInt 64 31).toNat : Int) = _
  rw [BitVec.toNat_and, BitVec.toNat_ofInt, show (BitVec.ofInt 64 31).toNat = 31 from by decide, nat_mask5, IntKind.wrap_i64]
  omega
set_option maxRecDepth 100000 in
set_option maxHeartbeats 400000 in
theorem right32_calls (x : Nat) (k : Int) (w : World) (hx : x < 4294967296) :
    Calls Tryd.prog 56 #[.int .u32 (x : Int), .int .i64 k] w (Quiet w (.int .u32 (rol 32 x (32 - (k % 32).toNat) : Int))) := by
  obtain ⟨s, hs⟩ : ∃ s : Nat, k % 32 = s := ⟨(k % 32).toNat, by omega⟩
  have hs32 : s < 32 := by omega
  have hand : bits .and .i64 k 31 = (s : Int) := by rw [and31, hs]
  have HS := Lib.hid hs
  clear hs
  go_enter Tryd.func56, Tryd.ntmps56
  go_wp2
  go_quiet (fail)
  go_wp2
  go_ret
  refine ⟨?_, nq, rfl⟩
  have e : (k % 32).toNat = s := by have := HS.out; omega
  rw [e, ← ro32 x s (by omega) hx]
  rfl
end Go.Proofs.YthkkllcpogagiaaDoor

/- Words: what a call ends in that leaves all that was there; a byte slice as a string. -/
namespace Go.Proofs.YthkkllcpogagiaaDoor
open Go.RowKit

set_option maxRecDepth 100000 in
theorem conv8 (w : World) (A : Option Addr) (n c : Nat) (l : List UInt8) (h : Rd w A n l) :
    (convert 28 9 (.slice A n c)).run Tryd.prog w = .ok (.string ⟨l.toArray⟩) w := by
  obtain ⟨hl, hr⟩ := h
  subst hl
  cases l with
  | nil =>
    cases A with
    | none => exact run_convert_bytes_nil w 28 5 Tryd.underlying28 Tryd.underlying5 0 c 9 Tryd.underlying9
    | some a => exact run_convert_bytes_back w 28 9 5 a c [] Tryd.underlying28 Tryd.underlying5 Tryd.underlying9 (fun j hj => absurd hj (by simp))
  | cons x r =>
    obtain ⟨b, off, rfl, _, hc⟩ := hr (by simp)
    refine run_convert_bytes_back w 28 9 5 ⟨b, off, none⟩ c (x :: r) Tryd.underlying28 Tryd.underlying5 Tryd.underlying9 (fun j hj => ?_)
    have hp : (⟨b, off, none⟩ : Addr).add j = ⟨b, off + j, none⟩ := by unfold Addr.add; split <;> simp_all
    rw [hp]
    exact hc j hj
/-- What a call ends in that answers v and leaves all that was there. -/
def Ret (w : World) (v : Value) (e : Ending) (w' : World) : Prop := e = .returned v ∧ Below w.heap.size w w'
set_option maxRecDepth 100000 in
theorem below_drewN {B : Nat} {a w : World} (h : Below B a w) (n : Nat) : Below B a (w.drewN n) := ⟨h.os, h.tape, h.output, h.size, h.block⟩
end Go.Proofs.YthkkllcpogagiaaDoor
