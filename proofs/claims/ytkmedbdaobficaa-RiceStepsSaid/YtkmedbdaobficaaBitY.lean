/- What package bit answers, in one: its writers and its readers. -/
import Derived.Test.YtkmedbdaobficaaBitF
import Derived.Test.YtkmedbdaobficaaBitH
namespace Go.Proofs.Ytkmedbdaobficaa
open Go.RowKit
set_option linter.unusedVariables false

/-- The writer at block p, made of the blocks S, holds the bits l. -/
def BWx (w : World) (p : Nat) (S : Nat → Prop) (l : List Bool) : Prop := ∃ A c, Wb w p A c l ∧ ∀ i, S i ↔ WS p A i
/-- The reader at block q, made of the blocks S, has the bits l left. -/
def BRx (w : World) (base q : Nat) (S : Nat → Prop) (l : List Bool) : Prop := ∃ A c b k, Rb w q A c b k ∧ l = (unp b).drop k ∧ (∀ g, blkOf A = some g → g < w.heap.size) ∧ ∀ i, S i ↔ WS q A i
set_option maxRecDepth 100000 in
theorem Rb.frm {w w' : World} {q c k : Nat} {A : Option Addr} {b : List UInt8} {X : Nat → Prop} (h : Rb w q A c b k) (hf : Frm X w w') (hX : ∀ i, X i → ¬ WS q A i) : Rb w' q A c b k := by
  refine ⟨hf.blk h.blk fun hx => hX q hx (.inl rfl), ⟨h.rd.1, fun hn => ?_⟩, h.cap, h.max, h.big, h.read⟩
  obtain ⟨g, off, e, h1, h2, h3⟩ := h.rd.2 hn
  refine ⟨g, off, e, h1, Nat.lt_of_lt_of_le h2 hf.size, fun j hj => ?_⟩
  exact (hf.cell (p := ⟨g, off + j, none⟩) h2 (fun hx => hX g hx (.inr (by rw [e]; rfl)))).trans (h3 j hj)
set_option maxRecDepth 100000 in
theorem bw_to {w w' : World} {p c c' : Nat} {A A' : Option Addr} {S : Nat → Prop} {l l' : List Bool} (hS : ∀ i, S i ↔ WS p A i) (h : Wb w' p A' c' l') (hf : Frm (WS p A) w w') (hn : ∀ g, blkOf A' = some g → blkOf A = some g ∨ w.heap.size ≤ g) :
    ∃ S', BWx w' p S' l' ∧ Frm S w w' ∧ ∀ i, S' i → S i ∨ w.heap.size ≤ i :=
  ⟨WS p A', ⟨A', c', h, fun _ => Iff.rfl⟩, hf.mono fun i hi => (hS i).2 hi, fun i hi => (ws_step hn i hi).elim (fun h => .inl ((hS i).2 h)) .inr⟩
set_option maxRecDepth 100000 in
theorem br_to {w w' : World} {base q c k' : Nat} {A : Option Addr} {b : List UInt8} {S : Nat → Prop} {l' : List Bool} (hS : ∀ i, S i ↔ WS q A i) (hl : ∀ g, blkOf A = some g → g < w.heap.size) (h : Rb w' q A c b k') (he : (unp b).drop k' = l') (hf : Frm (fun i => i = q) w w') :
    ∃ S', BRx w' base q S' l' ∧ Frm S w w' ∧ ∀ i, S' i → S i ∨ w.heap.size ≤ i :=
  ⟨S, ⟨A, c, b, k', h, he.symm, fun g hg => Nat.lt_of_lt_of_le (hl g hg) hf.size, hS⟩, hf.mono fun i hi => (hS i).2 (.inl hi), fun i hi => .inl hi⟩
set_option maxRecDepth 100000 in
theorem bitOk : BitOk BWx BRx where
  wfrm := by
    rintro w w' p S X l ⟨A, c, h, hS⟩ hf hX
    exact ⟨A, c, h.frm hf (fun hx => hX p hx ((hS p).2 (.inl rfl))) (fun g hg hx => hX g hx ((hS g).2 (.inr hg))), hS⟩
  wlt := by
    rintro w p S l ⟨A, c, h, hS⟩ i hi
    exact h.lt i ((hS i).1 hi)
  rfrm := by
    rintro w w' base p S X l ⟨A, c, b, k, h, hl, hb, hS⟩ hf hX
    exact ⟨A, c, b, k, h.frm hf fun i hi hs => (hX i hi).1 ((hS i).2 hs), hl, fun g hg => Nat.lt_of_lt_of_le (hb g hg) hf.size, hS⟩
  rlt := by
    rintro w base p S l ⟨A, c, b, k, h, hl, hb, hS⟩ i hi
    rcases (hS i).1 hi with rfl | h1
    · exact h.blk.lt
    · exact hb i h1
  new := fun W => (bwnew_calls W).mono fun e w' ⟨h1, h2, h3⟩ => ⟨_, WS W.heap.size none, h1, ⟨none, 0, h2, fun _ => Iff.rfl⟩, h3, fun i hi => by
    rcases hi with rfl | hi
    · exact Nat.le_refl _
    · simp [blkOf] at hi⟩
  put := by
    rintro W p S l n k ⟨A, c, h, hS⟩ hl hn h1 h2
    refine (bput_calls W p A c l n k h hl hn).mono ?_
    rintro e w' ⟨A', c', rfl, hw, hf, hn⟩
    obtain ⟨S', k1, k2, k3⟩ := bw_to (c := c) (l := l) hS hw hf hn
    exact ⟨S', rfl, k1, k2, k3⟩
  ones := by
    rintro W p S l n ⟨A, c, h, hS⟩ hl h1 h2
    refine (bones_calls W p A c l n h hl).mono ?_
    rintro e w' ⟨A', c', rfl, hw, hf, hn⟩
    obtain ⟨S', k1, k2, k3⟩ := bw_to (c := c) (l := l) hS hw hf hn
    exact ⟨S', rfl, k1, k2, k3⟩
  len := by
    rintro W p S l ⟨A, c, h, hS⟩ hl
    exact bwlen_calls W p A c l h
  bytes := by
    rintro W p S l ⟨A, c, h, hS⟩ hl
    refine (bwbytes_calls W p A c l h hl).mono ?_
    rintro e w' ⟨A', n', c', rfl, ho, hb⟩
    exact ⟨A', n', c', rfl, ho.rd, (own_cap ho).1, (own_cap ho).2, hb⟩
  of_ := by
    rintro W A n c b base hb hnc hcm hn hbs
    refine (bof_calls A n c b W hn hb.rd).mono ?_
    rintro e w' ⟨q, A', c', rfl, hq, hR, hA, hB⟩
    refine ⟨q, WS q A', rfl, ⟨A', c', b, 0, hR, rfl, fun g hg => (hA g hg).2, fun _ => Iff.rfl⟩, hB, fun i hi => ?_⟩
    rcases hi with rfl | hi
    · exact hq
    · exact (hA i hi).1
  take := by
    rintro W base p S l k ⟨A, c, b, j, h, rfl, hb, hS⟩ hl h1 h2
    refine (btake_calls W p A c b j h k).mono ?_
    rintro e w' ⟨j', rfl, hr, he, hf⟩
    obtain ⟨S', k1, k2, k3⟩ := br_to (base := base) hS hb hr he hf
    exact ⟨S', rfl, k1, k2, k3⟩
  run := by
    rintro W base p S l k ⟨A, c, b, j, h, rfl, hb, hS⟩ hl h1 h2
    refine (brun_calls W p A c b j h k h2).mono ?_
    rintro e w' ⟨j', rfl, hr, he, hf⟩
    obtain ⟨S', k1, k2, k3⟩ := br_to (base := base) hS hb hr he hf
    exact ⟨S', rfl, k1, k2, k3⟩
  left := by
    rintro W base p S l ⟨A, c, b, j, h, rfl, hb, hS⟩ hl
    have := h.read
    exact bleft_calls W p A c b j h _ (by rw [List.length_drop, unp_len]; omega)
  clean := by
    rintro W base p S l ⟨A, c, b, j, h, rfl, hb, hS⟩ hl
    exact bclean_calls W p A c b j h
end Go.Proofs.Ytkmedbdaobficaa
