/- Merged texts: CodF CodS. -/
import Derived.Test.YthkkllcpogagiaaMaa
import Derived.Test.YthkkllcpogagiaaMab
import Derived.Test.YthkkllcpogagiaaMac
import Derived.Test.YthkkllcpogagiaaMaf
import Derived.Lib.LazyBuf
/- Words for objects that are written again and again: all but some blocks still hold what they held. -/
namespace Go.Proofs.Ythkkllcpogagiaa
open Go.RowKit
set_option linter.unusedVariables false

/-- All blocks that were there but those of S still hold what they held. -/
structure Frm (S : Nat → Prop) (w w' : World) : Prop where
  os : w'.os = w.os
  tape : w'.tape = w.tape
  output : w'.output = w.output
  size : w.heap.size ≤ w'.heap.size
  block : ∀ i, i < w.heap.size → ¬ S i → w'.heap[i]? = w.heap[i]?
set_option maxRecDepth 100000 in
theorem Frm.refl (S : Nat → Prop) (w : World) : Frm S w w := ⟨rfl, rfl, rfl, Nat.le_refl _, fun _ _ _ => rfl⟩
set_option maxRecDepth 100000 in
theorem Frm.trans {S : Nat → Prop} {a b c : World} (h : Frm S a b) (k : Frm S b c) : Frm S a c :=
  ⟨k.os.trans h.os, k.tape.trans h.tape, k.output.trans h.output, Nat.le_trans h.size k.size, fun i hi hS => (k.block i (Nat.lt_of_lt_of_le hi h.size) hS).trans (h.block i hi hS)⟩
set_option maxRecDepth 100000 in
theorem Frm.step {S T : Nat → Prop} {a b c : World} (h : Frm S a b) (k : Frm T b c) (hT : ∀ i, T i → S i ∨ a.heap.size ≤ i) : Frm S a c :=
  ⟨k.os.trans h.os, k.tape.trans h.tape, k.output.trans h.output, Nat.le_trans h.size k.size, fun i hi hS => (k.block i (Nat.lt_of_lt_of_le hi h.size) (fun ht => by rcases hT i ht with h1 | h1; exact hS h1; omega)).trans (h.block i hi hS)⟩
set_option maxRecDepth 100000 in
theorem Frm.mono {S T : Nat → Prop} {w w' : World} (h : Frm S w w') (hT : ∀ i, S i → T i) : Frm T w w' := ⟨h.os, h.tape, h.output, h.size, fun i hi hn => h.block i hi (fun hs => hn (hT i hs))⟩
set_option maxRecDepth 100000 in
theorem Frm.of_below {S : Nat → Prop} {w w' : World} (h : Below w.heap.size w w') : Frm S w w' := ⟨h.os, h.tape, h.output, h.size, fun i hi _ => h.block i hi⟩
set_option maxRecDepth 100000 in
theorem Frm.alloc {S : Nat → Prop} {w w' : World} (h : Frm S w w') (o : Obj) : Frm S w (w'.alloc o) :=
  h.trans (Frm.of_below ((Below.refl _ _).alloc (Nat.le_refl _) o))
set_option maxRecDepth 100000 in
theorem Frm.drew {S : Nat → Prop} {w w' : World} (h : Frm S w w') : Frm S w w'.drew := ⟨h.os, h.tape, h.output, h.size, h.block⟩
set_option maxRecDepth 100000 in
theorem Frm.undrew {S : Nat → Prop} {w w' : World} (h : Frm S w.drew w') : Frm S w w' := ⟨h.os, h.tape, h.output, h.size, h.block⟩
set_option maxRecDepth 100000 in
theorem Frm.below {S : Nat → Prop} {w w' : World} (h : Frm S w w') {B : Nat} (hB : B ≤ w.heap.size) (hS : ∀ i, S i → B ≤ i) : Below B w w' :=
  ⟨h.os, h.tape, h.output, h.size, fun i hi => h.block i (by omega) (fun hs => by have := hS i hs; omega)⟩
set_option maxRecDepth 100000 in
theorem Frm.cell {S : Nat → Prop} {w w' : World} (h : Frm S w w') {p : Addr} (hp : p.block < w.heap.size) (hS : ¬ S p.block) : w'.cell? p = w.cell? p := World.cell?_of_block (w := w) (h.block p.block hp hS)
set_option maxRecDepth 100000 in
theorem Frm.blk {S : Nat → Prop} {w w' : World} {g : Nat} {cs : List Value} {t : TypeId} (h : Frm S w w') (hb : Blk w g cs t) (hS : ¬ S g) : Blk w' g cs t := (h.block g hb.lt hS).trans hb
set_option maxRecDepth 100000 in
theorem Frm.only {g : Nat} {S : Nat → Prop} {w w' : World} (h : Only g w w') (hS : S g) : Frm S w w' :=
  ⟨h.os, h.tape, h.output, by rw [h.size]; exact Nat.le_refl _, fun i hi hn => h.block i (fun e => hn (e ▸ hS))⟩
set_option maxRecDepth 100000 in
theorem Frm.setCell {S : Nat → Prop} {w w' : World} (h : Frm S w w') (g o : Nat) (v : Value) (hS : S g) : Frm S w (w'.setCell ⟨g, o, none⟩ v) :=
  h.trans (Frm.only ((Only.refl g w').set o v) hS)

/-- The slice of n bytes that begins at A holds the bytes l, and lies in no block of S. -/
def RdF (w : World) (S : Nat → Prop) (A : Option Addr) (n : Nat) (l : List UInt8) : Prop :=
  l.length = n ∧ (0 < n → ∃ b off, A = some ⟨b, off, none⟩ ∧ ¬ S b ∧ b < w.heap.size ∧ ∀ j (h : j < l.length), w.cell? ⟨b, off + j, none⟩ = some (.int .u8 (l[j].toNat : Int)))
set_option maxRecDepth 100000 in
theorem RdF.len {w : World} {S : Nat → Prop} {A : Option Addr} {n : Nat} {l : List UInt8} (h : RdF w S A n l) : l.length = n := h.1
set_option maxRecDepth 100000 in
theorem RdF.nil (w : World) (S : Nat → Prop) (A : Option Addr) : RdF w S A 0 [] := ⟨rfl, fun h => absurd h (by omega)⟩
set_option maxRecDepth 100000 in
theorem RdF.rd {w : World} {S : Nat → Prop} {A : Option Addr} {n : Nat} {l : List UInt8} (h : RdF w S A n l) : Rd w A n l :=
  ⟨h.1, fun hn => by obtain ⟨b, off, e, _, hb, hc⟩ := h.2 hn; exact ⟨b, off, e, hb, hc⟩⟩
set_option maxRecDepth 100000 in
theorem RdF.frm {w w' : World} {S : Nat → Prop} {A : Option Addr} {n : Nat} {l : List UInt8} (h : RdF w S A n l) (hf : Frm S w w') : RdF w' S A n l :=
  ⟨h.1, fun hn => by
    obtain ⟨b, off, e, hS, hb, hc⟩ := h.2 hn
    exact ⟨b, off, e, hS, Nat.lt_of_lt_of_le hb hf.size, fun j hj => (hf.cell (p := ⟨b, off + j, none⟩) hb hS).trans (hc j hj)⟩⟩
set_option maxRecDepth 100000 in
theorem RdF.below {w w' : World} {S : Nat → Prop} {A : Option Addr} {n : Nat} {l : List UInt8} (h : RdF w S A n l) (hf : Below w.heap.size w w') : RdF w' S A n l := h.frm (Frm.of_below hf)
set_option maxRecDepth 100000 in
theorem RdF.drop {w : World} {S : Nat → Prop} {A : Option Addr} {n c : Nat} {l : List UInt8} (h : RdF w S A n l) (k : Nat) (hnc : n ≤ c) : RdF w S (sub A c k) (n - k) (l.drop k) := by
  refine ⟨by rw [List.length_drop, h.1], fun hn => ?_⟩
  obtain ⟨b, off, rfl, hS, hb, hc⟩ := h.2 (by omega)
  refine ⟨b, off + k, ?_, hS, hb, fun j hj => ?_⟩
  · unfold sub
    rw [if_neg (by omega), Option.map_some, Addr.add_mid]
  · rw [List.length_drop] at hj
    rw [List.getElem_drop, Nat.add_assoc]
    exact hc (k + j) (by omega)
set_option maxRecDepth 100000 in
/-- What was there ahead of all of S lies in none of it. -/
theorem RdF.old {w W : World} {S : Nat → Prop} {A : Option Addr} {n : Nat} {l : List UInt8} (h : Rd w A n l) (hb : Below w.heap.size w W) (hS : ∀ i, S i → w.heap.size ≤ i) : RdF W S A n l :=
  ⟨h.1, fun hn => by
    obtain ⟨b, off, e, hlt, hc⟩ := h.2 hn
    have hs := hb.size
    exact ⟨b, off, e, fun hs => by have := hS b hs; omega, by omega, fun j hj => (hb.cell (p := ⟨b, off + j, none⟩) hlt).trans (hc j hj)⟩⟩
set_option maxRecDepth 100000 in
/-- What a call made lies in no block that was there. -/
theorem RdF.own {W : World} {base : Nat} {S : Nat → Prop} {A : Option Addr} {n c : Nat} {l : List UInt8} (h : Own W base A n c l) (hS : ∀ i, S i → i < base) : RdF W S A n l := by
  obtain ⟨hl, hw⟩ := h
  refine ⟨hl, fun hn => ?_⟩
  obtain ⟨g, cap, hv, hb, hlt⟩ := World.ownsRow.form hw hn
  have hA : A = some ⟨g, 0, none⟩ := by injection hv
  subst hA
  refine ⟨g, 0, rfl, fun hs => by have := hS g hs; omega, hlt, fun j hj => ?_⟩
  have := World.ownsRow.cellAt hw j (by omega)
  rw [Nat.zero_add, this]
  simp [List.getElem?_eq_getElem hj, B8]

/-- The block of a slice. -/
def blkOf (A : Option Addr) : Option Nat := A.map (·.block)
/-- The blocks of a writer: its own and its bytes'. -/
def WS (p : Nat) (A : Option Addr) (i : Nat) : Prop := i = p ∨ blkOf A = some i
/-- The writer at block p holds the bytes l. -/
def Wr (w : World) (p : Nat) (A : Option Addr) (c : Nat) (l : List UInt8) : Prop :=
  Blk w p [.slice A l.length c] 89 ∧ Own w 0 A l.length c l ∧ blkOf A ≠ some p
set_option maxRecDepth 100000 in
theorem Own.lt {w : World} {base n c : Nat} {A : Option Addr} {l : List UInt8} (h : Own w base A n c l) {g : Nat} (hg : blkOf A = some g) : g < w.heap.size ∧ base ≤ g := by
  rcases h.2.2 with ⟨hv, _⟩ | ⟨g', cap, cur, hv, hb, hh, _⟩
  · injection hv with e1; rw [e1] at hg; simp [blkOf] at hg
  · injection hv with e1
    rw [e1] at hg
    simp [blkOf] at hg
    subst hg
    exact ⟨(Array.getElem?_eq_some_iff.1 hh).1, hb⟩
set_option maxRecDepth 100000 in
theorem Own.frm {w w' : World} {base n c : Nat} {A : Option Addr} {l : List UInt8} {S : Nat → Prop} (h : Own w base A n c l) (hf : Frm S w w') (hS : ∀ g, blkOf A = some g → ¬ S g) : Own w' base A n c l := by
  have hlt := fun g (hg : blkOf A = some g) => h.lt hg
  obtain ⟨h1, h2, h3⟩ := h
  refine ⟨h1, h2, ?_⟩
  rcases h3 with h' | ⟨g, cap, cur, e, hb, hh, hr⟩
  · exact .inl h'
  · refine .inr ⟨g, cap, cur, e, hb, ?_, hr⟩
    injection e with e1
    have hA : blkOf A = some g := by rw [e1]; rfl
    rw [hf.block g (hlt g hA).1 (hS g hA)]; exact hh
set_option maxRecDepth 100000 in
theorem Own.base {w : World} {base base' n c : Nat} {A : Option Addr} {l : List UInt8} (h : Own w base A n c l) (hb : ∀ g, blkOf A = some g → base' ≤ g) : Own w base' A n c l := by
  obtain ⟨h1, h2, h3⟩ := h
  refine ⟨h1, h2, ?_⟩
  rcases h3 with h' | ⟨g, cap, cur, e, _, hh, hr⟩
  · exact .inl h'
  · refine .inr ⟨g, cap, cur, e, ?_, hh, hr⟩
    injection e with e1
    exact hb g (by rw [e1]; rfl)
set_option maxRecDepth 100000 in
theorem Wr.frm {w w' : World} {p c : Nat} {A : Option Addr} {l : List UInt8} {S : Nat → Prop} (h : Wr w p A c l) (hf : Frm S w w') (hp : ¬ S p) (hA : ∀ g, blkOf A = some g → ¬ S g) : Wr w' p A c l :=
  ⟨hf.blk h.1 hp, h.2.1.frm hf hA, h.2.2⟩
set_option maxRecDepth 100000 in
theorem Wr.below {w w' : World} {p c : Nat} {A : Option Addr} {l : List UInt8} (h : Wr w p A c l) (hb : Below w.heap.size w w') : Wr w' p A c l :=
  h.frm (S := fun _ => False) (Frm.of_below hb) (fun h => h) (fun _ _ h => h)
set_option maxRecDepth 100000 in
theorem Wr.lt {w : World} {p c : Nat} {A : Option Addr} {l : List UInt8} (h : Wr w p A c l) : ∀ i, WS p A i → i < w.heap.size := fun i hi => by
  rcases hi with rfl | hi
  · exact h.1.lt
  · exact (h.2.1.lt hi).1
set_option maxRecDepth 100000 in
theorem Wr.drew {w : World} {p c : Nat} {A : Option Addr} {l : List UInt8} (h : Wr w p A c l) : Wr w.drew p A c l := h
/-- What a call that writes ends in: the writer holds l, in its old blocks or in new ones, and nothing else has changed. -/
def Wto (w : World) (p : Nat) (A : Option Addr) (l : List UInt8) (w' : World) : Prop :=
  ∃ A' c', Wr w' p A' c' l ∧ Frm (WS p A) w w' ∧ ∀ g, blkOf A' = some g → blkOf A = some g ∨ w.heap.size ≤ g
set_option maxRecDepth 100000 in
theorem Wto.mk {w w' w'' : World} {p c : Nat} {A A' A'' : Option Addr} {l : List UInt8} (hf : Frm (WS p A) w w') (hn : ∀ g, blkOf A' = some g → blkOf A = some g ∨ w.heap.size ≤ g)
    (hw : Wr w'' p A'' c l) (hf2 : Frm (WS p A') w' w'') (hn2 : ∀ g, blkOf A'' = some g → blkOf A' = some g ∨ w'.heap.size ≤ g) : Wto w p A l w'' :=
  ⟨A'', c, hw, hf.step hf2 (fun i hi => by
    rcases hi with rfl | hi
    · exact .inl (.inl rfl)
    · rcases hn i hi with h1 | h1
      · exact .inl (.inr h1)
      · exact .inr h1), fun g hg => by
    rcases hn2 g hg with h1 | h1
    · exact hn g h1
    · exact .inr (Nat.le_trans hf.size h1)⟩
/-- The slice of n byte slices that begins at X holds the byte lists L, and nothing of it lies in a block of S. -/
def RdLF (w : World) (S : Nat → Prop) (X : Option Addr) (n : Nat) (L : List (List UInt8)) : Prop :=
  L.length = n ∧ (0 < n → ∃ b off, X = some ⟨b, off, none⟩ ∧ ¬ S b ∧ b < w.heap.size ∧ ∀ j (h : j < L.length), ∃ A' m c', w.cell? ⟨b, off + j, none⟩ = some (.slice A' m c') ∧ RdF w S A' m L[j])
set_option maxRecDepth 100000 in
theorem RdLF.len {w : World} {S : Nat → Prop} {X : Option Addr} {n : Nat} {L : List (List UInt8)} (h : RdLF w S X n L) : L.length = n := h.1
set_option maxRecDepth 100000 in
theorem RdLF.at_ {w : World} {S : Nat → Prop} {X : Option Addr} {n : Nat} {L : List (List UInt8)} (h : RdLF w S X n L) {k : Nat} (hk : k < n) :
    ∃ b off A' m c', ∃ hl : k < L.length, X = some ⟨b, off, none⟩ ∧ w.cell? ⟨b, off + k, none⟩ = some (.slice A' m c') ∧ RdF w S A' m L[k] := by
  obtain ⟨b, off, e, _, hb, hc⟩ := h.2 (by omega)
  have hl : k < L.length := by have := h.1; omega
  obtain ⟨A', m, c', h1, h2⟩ := hc k hl
  exact ⟨b, off, A', m, c', hl, e, h1, h2⟩
set_option maxRecDepth 100000 in
theorem RdLF.frm {w w' : World} {S : Nat → Prop} {X : Option Addr} {n : Nat} {L : List (List UInt8)} (h : RdLF w S X n L) (hf : Frm S w w') : RdLF w' S X n L :=
  ⟨h.1, fun hn => by
    obtain ⟨b, off, e, hS, hb, hc⟩ := h.2 hn
    refine ⟨b, off, e, hS, Nat.lt_of_lt_of_le hb hf.size, fun j hj => ?_⟩
    obtain ⟨A', m, c', h1, h2⟩ := hc j hj
    exact ⟨A', m, c', (hf.cell (p := ⟨b, off + j, none⟩) hb hS).trans h1, h2.frm hf⟩⟩
set_option maxRecDepth 100000 in
theorem flatT (L : List (List UInt8)) (t : Nat) (h : t < L.length) : (L.take (t + 1)).flatten = (L.take t).flatten ++ L[t] := by
  rw [List.take_succ_eq_append_getElem h, List.flatten_append, List.flatten_cons, List.flatten_nil, List.append_nil]
set_option maxRecDepth 100000 in
theorem flatL (L : List (List UInt8)) (t : Nat) : (L.take t).flatten.length ≤ L.flatten.length := by
  conv => rhs; rw [← List.take_append_drop t L, List.flatten_append, List.length_append]
  omega
set_option maxRecDepth 100000 in
/-- Byte slices that are laid out anew as a list. -/
theorem rdlf1 (W : World) (S : Nat → Prop) (g : Nat) (hg : W.heap.size = g) (hS : ∀ i, S i → i < g) (A1 : Option Addr) (n1 c1 : Nat) (l1 : List UInt8) (h1 : RdF W S A1 n1 l1) (t : TypeId) :
    RdLF (W.alloc (.cells #[.slice A1 n1 c1] t)) S (some ⟨g, 0, none⟩) 1 [l1] := by
  have hb := Blk.new' W #[.slice A1 n1 c1] t g hg
  refine ⟨rfl, fun _ => ⟨g, 0, rfl, fun hs => by have := hS g hs; omega, hb.lt, fun j hj => ?_⟩⟩
  have : j = 0 := by simp at hj; omega
  subst this
  exact ⟨A1, n1, c1, hb.cell 0, h1.below ((Below.refl _ _).alloc (Nat.le_refl _) _)⟩
set_option maxRecDepth 100000 in
theorem rdlf2 (W : World) (S : Nat → Prop) (g : Nat) (hg : W.heap.size = g) (hS : ∀ i, S i → i < g) (A1 A2 : Option Addr) (n1 c1 n2 c2 : Nat) (l1 l2 : List UInt8) (h1 : RdF W S A1 n1 l1) (h2 : RdF W S A2 n2 l2) (t : TypeId) :
    RdLF (W.alloc (.cells #[.slice A1 n1 c1, .slice A2 n2 c2] t)) S (some ⟨g, 0, none⟩) 2 [l1, l2] := by
  have hb := Blk.new' W #[.slice A1 n1 c1, .slice A2 n2 c2] t g hg
  refine ⟨rfl, fun _ => ⟨g, 0, rfl, fun hs => by have := hS g hs; omega, hb.lt, fun j hj => ?_⟩⟩
  rcases j with _ | _ | j
  · exact ⟨A1, n1, c1, hb.cell 0, h1.below ((Below.refl _ _).alloc (Nat.le_refl _) _)⟩
  · exact ⟨A2, n2, c2, hb.cell 1, h2.below ((Below.refl _ _).alloc (Nat.le_refl _) _)⟩
  · exact absurd hj (by simp)
set_option maxRecDepth 100000 in
theorem rdlf3 (W : World) (S : Nat → Prop) (g : Nat) (hg : W.heap.size = g) (hS : ∀ i, S i → i < g) (A1 A2 A3 : Option Addr) (n1 c1 n2 c2 n3 c3 : Nat) (l1 l2 l3 : List UInt8) (h1 : RdF W S A1 n1 l1) (h2 : RdF W S A2 n2 l2) (h3 : RdF W S A3 n3 l3) (t : TypeId) :
    RdLF (W.alloc (.cells #[.slice A1 n1 c1, .slice A2 n2 c2, .slice A3 n3 c3] t)) S (some ⟨g, 0, none⟩) 3 [l1, l2, l3] := by
  have hb := Blk.new' W #[.slice A1 n1 c1, .slice A2 n2 c2, .slice A3 n3 c3] t g hg
  refine ⟨rfl, fun _ => ⟨g, 0, rfl, fun hs => by have := hS g hs; omega, hb.lt, fun j hj => ?_⟩⟩
  rcases j with _ | _ | _ | j
  · exact ⟨A1, n1, c1, hb.cell 0, h1.below ((Below.refl _ _).alloc (Nat.le_refl _) _)⟩
  · exact ⟨A2, n2, c2, hb.cell 1, h2.below ((Below.refl _ _).alloc (Nat.le_refl _) _)⟩
  · exact ⟨A3, n3, c3, hb.cell 2, h3.below ((Below.refl _ _).alloc (Nat.le_refl _) _)⟩
  · exact absurd hj (by simp)
/-- The reader at block q has the bytes l left, and the error e; its bytes lie in no block of S. -/
def Rr (w : World) (q : Nat) (l : List UInt8) (e : Nat) (S : Nat → Prop := fun i => i = q) : Prop :=
  ∃ A c, Blk w q [.slice A l.length c, .int .i64 (e : Int)] 82 ∧ RdF w S A l.length l ∧ l.length ≤ c ∧ c ≤ maxLen ∧ l.length ≤ 140737488355328
set_option maxRecDepth 100000 in
theorem Rr.below {w w' : World} {q e : Nat} {l : List UInt8} {S : Nat → Prop} (h : Rr w q l e S) (hb : Below w.heap.size w w') : Rr w' q l e S := by
  obtain ⟨A, c, h1, h2, h3⟩ := h
  exact ⟨A, c, h1.below hb h1.lt, h2.below hb, h3⟩
set_option maxRecDepth 100000 in
theorem Rr.drew {w : World} {q e : Nat} {l : List UInt8} {S : Nat → Prop} (h : Rr w q l e S) : Rr w.drew q l e S := h
set_option maxRecDepth 100000 in
theorem Rr.lt {w : World} {q e : Nat} {l : List UInt8} {S : Nat → Prop} (h : Rr w q l e S) : q < w.heap.size := by
  obtain ⟨A, c, h1, _⟩ := h
  exact h1.lt
end Go.Proofs.Ythkkllcpogagiaa

/- Contracts of small functions: codec.shape, codec.following, bytes.Clone. -/
namespace Go.Proofs.Ythkkllcpogagiaa
open Go.RowKit
set_option linter.unusedVariables false

set_option maxRecDepth 100000 in
theorem headB_small (n : Nat) (h : n < 253) : (n : Int) % 256 = ((headB n).toNat : Int) := by
  unfold headB
  rw [if_pos h, ofNat_toNat]
  omega
set_option maxRecDepth 100000 in
set_option maxHeartbeats 400000 in
theorem shape_calls (n : Nat) (w : World) : Calls Try.prog 45 #[.int .u64 (n : Int)] w (fun e w' => e = .returned (.tuple #[.int .u8 ((headB n).toNat : Int), .int .i64 (more n : Int)]) ∧ w = w') := by
  unfold headB more
  by_cases h1 : n < 253
  · have e : IntKind.u8.wrap (n : Int) = (n : Int) := by rw [IntKind.wrap_u8]; omega
    have e2 : ((UInt8.ofNat n).toNat : Int) = (n : Int) := by rw [ofNat_toNat]; omega
    simp only [if_pos h1, e2]
    go_enter Try.func45, Try.ntmps45
    go_wp2
    refine bodyPost_ret (v := .tuple #[.int .u8 (n : Int), .int .i64 0]) (by simp [results, Try.results45, go_sem]) rfl ⟨rfl, rfl⟩
  · by_cases h2 : n < 65536
    · simp only [if_neg h1, if_pos h2]
      go_enter Try.func45, Try.ntmps45
      go_wp2
      refine bodyPost_ret (v := .tuple #[.int .u8 253, .int .i64 2]) (by simp [results, Try.results45, go_sem]) rfl ⟨rfl, rfl⟩
    · by_cases h3 : n < 4294967296
      · simp only [if_neg h1, if_neg h2, if_pos h3]
        go_enter Try.func45, Try.ntmps45
        go_wp2
        refine bodyPost_ret (v := .tuple #[.int .u8 254, .int .i64 4]) (by simp [results, Try.results45, go_sem]) rfl ⟨rfl, rfl⟩
      · simp only [if_neg h1, if_neg h2, if_neg h3]
        go_enter Try.func45, Try.ntmps45
        go_wp2
        refine bodyPost_ret (v := .tuple #[.int .u8 255, .int .i64 8]) (by simp [results, Try.results45, go_sem]) rfl ⟨rfl, rfl⟩
set_option maxRecDepth 100000 in
theorem toNat_ne {c d : UInt8} (h : c ≠ d) : (c.toNat : Int) ≠ (d.toNat : Int) := fun e => h (UInt8.toNat_inj.1 (by omega))
set_option maxRecDepth 100000 in
set_option maxHeartbeats 400000 in
theorem following_calls (c : UInt8) (w : World) : Calls Try.prog 48 #[.int .u8 (c.toNat : Int)] w (fun e w' => e = .returned (.int .i64 (foll c : Int)) ∧ w = w') := by
  unfold foll
  by_cases h1 : c = 253
  · subst h1
    go_enter Try.func48, Try.ntmps48
    go_wp2
    go_ret
    exact ⟨rfl, rfl⟩
  · by_cases h2 : c = 254
    · subst h2
      go_enter Try.func48, Try.ntmps48
      go_wp2
      go_ret
      exact ⟨rfl, rfl⟩
    · by_cases h3 : c = 255
      · subst h3
        go_enter Try.func48, Try.ntmps48
        go_wp2
        go_ret
        exact ⟨rfl, rfl⟩
      · simp only [if_neg h1, if_neg h2, if_neg h3]
        have g1 : ¬ (c.toNat : Int) = 253 := toNat_ne h1
        have g2 : ¬ (c.toNat : Int) = 254 := toNat_ne h2
        have g3 : ¬ (c.toNat : Int) = 255 := toNat_ne h3
        go_enter Try.func48, Try.ntmps48
        go_wp2
        go_ret
        exact ⟨rfl, rfl⟩
set_option maxRecDepth 100000 in
/-- An empty row that is made. -/
theorem own_empty (w : World) : Own (w.alloc (.cells #[] 5)) w.heap.size (some ⟨w.heap.size, 0, none⟩) 0 0 [] := by
  refine ⟨rfl, rfl, .inr ⟨w.heap.size, 0, #[], rfl, Nat.le_refl _, heap_alloc_new w _, Nat.le_refl _, by unfold maxLen; omega, rfl, rfl⟩⟩
set_option maxRecDepth 100000 in
theorem Own.nil (w : World) (base : Nat) : Own w base none 0 0 [] := ⟨rfl, World.ownsRow_nil _ _ _ _⟩
set_option maxRecDepth 100000 in
set_option maxHeartbeats 400000 in
theorem clone_calls (A : Option Addr) (n c : Nat) (l : List UInt8) (w : World) (hn : n ≤ 140737488355328) (hr : Rd w A n l) :
    Calls Try.prog 35 #[.slice A n c] w (Mk w l) := by
  have hnil := fun W => run_eql_slice_nil (P := Try.prog) W 22 5 A n c Try.underlying22
  cases A with
  | none =>
    have hn0 : n = 0 := by
      rcases Nat.eq_zero_or_pos n with h | h
      · exact h
      · obtain ⟨b, off, e, _⟩ := hr.2 h
        cases e
    subst hn0
    have hl0 : l = [] := List.eq_nil_of_length_eq_zero hr.1
    subst hl0
    go_enter Try.func35, Try.ntmps35
    go_wp2
    go_ret
    exact ⟨_, _, _, rfl, Own.nil _ _, Below.refl _ _⟩
  | some a =>
    have HR := Lib.hid hr
    clear hr
    go_enter Try.func35, Try.ntmps35
    go_wp2_with (at_builtin; refine app8_all _ rfl _ _ rfl w.heap.size (some ⟨w.heap.size, 0, none⟩) 0 0 [] (some a) n c l rfl rfl (own_empty w) (HR.out.below ((Below.refl _ _).alloc (Nat.le_refl _) _)) (by omega) (by simp) ?_; intro A' c' w' hown hbel)
    go_ret
    simp only [Nat.zero_add] at hown ⊢
    exact ⟨_, _, _, rfl, hown, ((Below.refl _ _).alloc (Nat.le_refl _) _).trans hbel⟩
end Go.Proofs.Ythkkllcpogagiaa
