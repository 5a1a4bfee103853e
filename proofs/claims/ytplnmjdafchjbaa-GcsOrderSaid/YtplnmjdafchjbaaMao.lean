/- Merged texts: BitE BitF. -/
import Derived.Test.YtplnmjdafchjbaaMan
import Derived.Deep.RegionHeld3
/- Package bit: push. -/
namespace Go.Proofs.Ytplnmjdafchjbaa
open Go.RowKit
set_option linter.unusedVariables false
set_option linter.unusedSimpArgs false

set_option maxRecDepth 100000 in
theorem or8_nat (a b : Nat) (ha : a < 256) (hb : b < 256) : bits .or .u8 (a : Int) (b : Int) = ((a ||| b : Nat) : Int) := by
  show IntKind.u8.wrap ((BitVec.ofInt 8 (a : Int) ||| BitVec.ofInt 8 (b : Int)).toNat : Int) = _
  have hab : a ||| b < 2 ^ 8 := Nat.or_lt_two_pow ha hb
  have e1 : (BitVec.ofInt 8 (a : Int)).toNat = a := by rw [BitVec.toNat_ofInt]; omega
  have e2 : (BitVec.ofInt 8 (b : Int)).toNat = b := by rw [BitVec.toNat_ofInt]; omega
  rw [BitVec.toNat_or, e1, e2, IntKind.wrap_u8]
  omega
set_option maxRecDepth 100000 in
/-- A weight that the byte has not, laid into it. -/
theorem or8_top (a r : Nat) (hr : r < 8) (ha : a < 256) (h : a % 2 ^ (r + 1) = 0) (b : Bool) : bits .or .u8 (a : Int) (IntKind.u8.wrap ((b.toNat : Int) * 2 ^ r)) = ((a + (if b then 2 ^ r else 0) : Nat) : Int) := by
  have hp : 2 ^ r < 256 := Nat.lt_of_lt_of_le (Nat.pow_lt_pow_right (by omega) hr) (by decide)
  have hs : 2 ^ r < 2 ^ (r + 1) := Nat.pow_lt_pow_right (by omega) (by omega)
  have hw : IntKind.u8.wrap ((b.toNat : Int) * 2 ^ r) = (((if b then 2 ^ r else 0) : Nat) : Int) := by
    cases b
    · rw [IntKind.wrap_u8]; simp
    · rw [IntKind.wrap_u8]
      have e : ((2 : Int) ^ r) = ((2 ^ r : Nat) : Int) := by rw [Int.natCast_pow]; rfl
      simp only [Bool.toNat_true, if_true, e]
      omega
  rw [hw, or8_nat a _ ha (by split <;> omega)]
  congr 1
  have hd : a = 2 ^ (r + 1) * (a / 2 ^ (r + 1)) := by
    have := Nat.div_add_mod a (2 ^ (r + 1))
    omega
  have hz : (if b then 2 ^ r else 0) < 2 ^ (r + 1) := by split <;> omega
  have := Nat.two_pow_add_eq_or_of_lt hz (a / 2 ^ (r + 1))
  rw [← hd] at this
  exact this.symm
set_option maxRecDepth 100000 in
/-- The bytes when one bit more is written, in one form. -/
theorem push_math (V : List Bool) (b : Bool) : ∃ (P : List UInt8) (x y : Nat), P.length = V.length / 8 ∧ (V.length % 8 = 0 → pack V = P ∧ x = 0) ∧ (V.length % 8 ≠ 0 → pack V = P ++ [UInt8.ofNat x]) ∧ x < 256 ∧ y < 256 ∧
    pack (V ++ [b]) = P ++ [UInt8.ofNat y] ∧ bits .or .u8 (x : Int) (IntKind.u8.wrap ((b.toNat : Int) * 2 ^ (7 - V.length % 8))) = (y : Int) := by
  by_cases h : V.length % 8 = 0
  · refine ⟨pack V, 0, if b then 128 else 0, by rw [pack_len]; omega, fun _ => ⟨rfl, rfl⟩, fun k => absurd h k, by omega, by split <;> omega, ?_, ?_⟩
    · rw [pack_new V b h]; cases b <;> rfl
    · rw [h]; cases b <;> decide
  · obtain ⟨P, c, h1, h2, h3, h4⟩ := pack_old V b (V.length % 8) rfl (by omega)
    have hr : V.length % 8 < 8 := Nat.mod_lt _ (by omega)
    have hc := c.toNat_lt
    have h3' : c.toNat % 2 ^ (7 - V.length % 8 + 1) = 0 := by rw [show 7 - V.length % 8 + 1 = 8 - V.length % 8 from by omega]; exact h3
    have hy : c.toNat + (if b then 2 ^ (7 - V.length % 8) else 0) < 256 := by
      have e := or8_top c.toNat (7 - V.length % 8) (by omega) hc h3' b
      have : bits .or .u8 (c.toNat : Int) (IntKind.u8.wrap ((b.toNat : Int) * 2 ^ (7 - V.length % 8))) < 256 := by
        show IntKind.u8.wrap _ < 256
        rw [IntKind.wrap_u8]
        omega
      rw [e] at this
      omega
    refine ⟨P, c.toNat, _, h2, fun k => absurd k h, fun _ => by rw [h1, UInt8.ofNat_toNat], hc, hy, h4, or8_top c.toNat _ (by omega) hc h3' b⟩

/-- The writer at block p, whose bytes begin at A, holds the bits l. -/
def Wb (w : World) (p : Nat) (A : Option Addr) (c : Nat) (l : List Bool) : Prop :=
  Blk w p [.slice A ((l.length + 7) / 8) c, .int .i64 (l.length : Int)] 138 ∧ Own w 0 A ((l.length + 7) / 8) c (pack l) ∧ blkOf A ≠ some p
set_option maxRecDepth 100000 in
/-- append(out, u), in frames. -/
theorem app8_frm {ops : Array Oper} {rest : List Oper} {o : Oper} {a : Act} {Q : Exit → Act → World → Prop} (w : World) (hgd : o.guard = none) (s x : Operand)
    (ho : o.op = .call { callee := .builtin .append, args := #[s, x], argTypes := #[27, 27] })
    (A : Option Addr) (n c : Nat) (l : List UInt8) (z : Int) (u : UInt8) (hz : z = (u.toNat : Int)) (hs : a.eval s = .slice A n c) (hx : a.eval x = .slice (some ⟨w.heap.size, 0, none⟩) 1 1)
    (hown : Own w 0 A n c l) (hb : n + 1 ≤ 140737488355328)
    (h : ∀ A' c' w', Own w' 0 A' (n + 1) c' (l ++ [u]) → Frm (fun i => blkOf A = some i) w w' → (∀ g, blkOf A' = some g → blkOf A = some g ∨ w.heap.size ≤ g) → wpList Try.prog ops Q rest (a.put o.dst (.slice A' (n + 1) c')) w') :
    wpList Try.prog ops Q (o :: rest) a (w.alloc (.cells #[.int .u8 z] 5)) := by
  subst hz
  refine wpList_plain hgd fun _ hK => wpo_appG _ s x 27 ho 5 (.int .u8 0) 1 Try.underlying27 info8 rfl 0 _ n (l.map B8) hs (own_alloc hown.2 _) _ 1 1 ([u].map B8) hx rfl ?_ ?_ (by unfold maxLen; omega) (by omega) (Nat.zero_le _) ?_
  · intro _
    refine ⟨_, rfl, fun j v hj => ?_⟩
    have hp : (⟨w.heap.size, 0, none⟩ : Addr).add j = ⟨w.heap.size, j, none⟩ := by unfold Addr.add; split <;> simp_all
    rw [hp, cell_of_row _ w.heap.size j _ 5 (0, 0) (heap_alloc_new w _)]
    simpa [B8] using hj
  · intro v hv; simp at hv; rw [hv]; rfl
  · intro A' c' w' hown' _ hbk hgr
    have hf := frm_grown hgr
    rw [own_blkOf, own_blkOf] at hbk
    refine hK _ _ (h A' c' w' ⟨by simp [hown.1], by rw [List.map_append]; exact hown'⟩ (Frm.trans (Frm.of_below ((Below.refl _ w).alloc (Nat.le_refl _) _)) hf) (fun g hg => ?_))
    rcases hbk with e | e
    · exact .inl (e ▸ hg)
    · rw [e] at hg; injection hg with hg; refine .inr ?_; rw [← hg]; simp
set_option maxRecDepth 100000 in
set_option maxHeartbeats 2000000 in
theorem push_calls (w : World) (p : Nat) (A : Option Addr) (c : Nat) (l : List Bool) (b : Bool) (hW : Wb w p A c l) (hl : l.length ≤ 1000000000) :
    Calls Try.prog 109 #[.pointer (some ⟨p, 0, none⟩), .int .u8 (b.toNat : Int)] w fun e w' => ∃ A' c', e = .returned (.tuple #[]) ∧ Wb w' p A' c' (l ++ [b]) ∧ Frm (WS p A) w w' ∧ ∀ g, blkOf A' = some g → blkOf A = some g ∨ w.heap.size ≤ g := by
  obtain ⟨P, x, y, hPl, h0, h1, hx8, hy8, hP, hor⟩ := push_math l b
  obtain ⟨hb, ho, hAp0⟩ := hW
  obtain ⟨L, hL⟩ : ∃ z, z = l.length := ⟨_, rfl⟩
  obtain ⟨J, hJ⟩ : ∃ z, z = L / 8 := ⟨_, rfl⟩
  obtain ⟨m, hm⟩ : ∃ z, z = L % 8 := ⟨_, rfl⟩
  obtain ⟨r, hr⟩ : ∃ z, z = 7 - m := ⟨_, rfl⟩
  obtain ⟨z, hz⟩ : ∃ z, z = b.toNat := ⟨_, rfl⟩
  rw [← hz]
  rw [← hL] at hb ho hl hPl h0 h1 hor
  rw [← hm] at h0 h1 hor
  rw [← hr, ← hz] at hor
  rw [← hJ] at hPl
  have hm8 : m < 8 := by omega
  have hJb : J ≤ 1000000000 := by omega
  have hz2 : z < 2 := hz ▸ bit_lt b
  obtain ⟨S, hS⟩ : ∃ S, S = IntKind.u8.wrap ((z : Int) * 2 ^ r) := ⟨_, rfl⟩
  have hS' := hS.symm
  rw [hS'] at hor
  have q1 : Int.tdiv (L : Int) 8 = (J : Int) := by rw [Int.tdiv_eq_ediv_of_nonneg (by omega)]; omega
  have q2 : (L : Int) / 8 = (J : Int) := by omega
  have q3 : Int.tmod (L : Int) 8 = (m : Int) := by rw [Int.tmod_eq_emod_of_nonneg (by omega)]; omega
  have q4 : (L : Int) % 8 = (m : Int) := by omega
  have q5 : (7 : Int) - (m : Int) = (r : Int) := by omega
  have c0 : w.cell? ⟨p, 0, none⟩ = some (.slice A ((L + 7) / 8) c) := hb.cell 0
  have c1 : w.cell? ⟨p, 1, none⟩ = some (.int .i64 (L : Int)) := hb.cell 1
  have HL := Lib.hid hL
  have HP := Lib.hid hP
  by_cases hm0 : m = 0
  · have hm1 : (m : Int) = 0 := by omega
    obtain ⟨eP, ex⟩ := h0 hm0
    have e1 : (L + 7) / 8 = J := by omega
    rw [e1] at hb ho c0
    rw [eP] at ho
    have HX : Hid ((0 : UInt8) = UInt8.ofNat x) := Lib.hid (by rw [ex]; rfl)
    have r7 : r = 7 := by omega
    have hS7 : (z : Int) * 128 = S := by rw [← hS', r7, IntKind.wrap_u8]; omega
    have hS8 : IntKind.u8.wrap ((z : Int) * 128) = S := by rw [← hS', r7]; rfl
    obtain ⟨N, hN⟩ : ∃ z, z = J + 1 := ⟨_, rfl⟩
    have hJN : J < N := by omega
    have HBB := Lib.hid hb
    have HOO := Lib.hid ho
    have HAP := Lib.hid hAp0
    have HPL := Lib.hid hPl
    have HN := Lib.hid hN
    have f0 : w.frozen? ⟨p, 0, none⟩ = false := hb.free 0
    clear hb ho hP hL h0 h1 hAp0 hPl hJ hm hr hz e1 hS hN eP ex r7 hm0 q5 hS'
    go_enter Try.func109, Try.ntmps109
    go_wp2_with (at_builtin; refine app8_frm w rfl _ _ rfl A J c _ _ 0 rfl rfl rfl HOO.out (by omega) ?_; intro A2 c2 w2 ho2 hf2 hn2; rw [← HN.out, HX.out] at ho2; rw [← HN.out]
                 have hb2 : Blk w2 p [.slice A J c, .int .i64 (L : Int)] 138 := hf2.blk HBB.out HAP.out
                 have k0 : w2.cell? ⟨p, 0, none⟩ = some (.slice A J c) := hb2.cell 0
                 have kf : w2.frozen? ⟨p, 0, none⟩ = false := hb2.free 0)
    obtain ⟨g, rfl⟩ : ∃ g, A2 = some ⟨g, 0, none⟩ := by
      obtain ⟨g, cap, hv, _⟩ := World.ownsRow.form ho2.2 (by omega)
      injection hv with e
      exact ⟨g, e⟩
    have hAp : blkOf (some ⟨g, 0, none⟩) ≠ some p := fun e => by
      rcases hn2 p e with h | h
      · exact HAP.out h
      · have := HBB.out.lt; omega
    obtain ⟨w3, hw3⟩ : ∃ w3, w3 = w2.setCell ⟨p, 0, none⟩ (.slice (some ⟨g, 0, none⟩) N c2) := ⟨_, rfl⟩
    have hb3 : Blk w3 p [.slice (some ⟨g, 0, none⟩) N c2, .int .i64 (L : Int)] 138 := hw3 ▸ hb2.set 0 _
    have ho3 : Own w3 0 (some ⟨g, 0, none⟩) N c2 (P ++ [UInt8.ofNat x]) := hw3 ▸ ho2.frm (S := fun i => i = p) ((Frm.refl _ w2).setCell p 0 _ rfl) (fun i hi e => hAp (hi.trans (by rw [e])))
    have HF3 : Hid (Frm (WS p A) w w3) := Lib.hid (hw3 ▸ (hf2.mono (fun i h => Or.inr h)).setCell p 0 _ (.inl rfl))
    have HN2 := Lib.hid hn2
    rw [← hw3]
    obtain ⟨c3, hc3⟩ : ∃ c3, c3 = c2 := ⟨_, rfl⟩
    rw [← hc3] at ho3 hb3
    clear hc3 hw3 ho2 hf2 hn2 hb2 k0 kf c0 c1 f0
    have hgp : g ≠ p := fun e => hAp (by rw [e]; rfl)
    have d0 : w3.cell? ⟨p, 0, none⟩ = some (.slice (some ⟨g, 0, none⟩) N c3) := hb3.cell 0
    have d1 : w3.cell? ⟨p, 1, none⟩ = some (.int .i64 (L : Int)) := hb3.cell 1
    have d2 : w3.cell? ⟨g, J, none⟩ = some (.int .u8 (x : Int)) := by
      have := ho3.cell (k := J) (by rw [ho3.len]; omega)
      rw [this]
      have e : (P ++ [UInt8.ofNat x])[J]'(by rw [ho3.len]; omega) = UInt8.ofNat x := by simp [← HPL.out]
      rw [e, UInt8.toNat_ofNat', Nat.mod_eq_of_lt hx8]
    have d3 : w3.frozen? ⟨g, J, none⟩ = false := ho3.free _
    have HB := Lib.hid (And.intro ho3 hb3)
    clear ho3 hb3 hAp
    go_region
    obtain ⟨w4, hw4⟩ : ∃ w4, w4 = (w3.setCell ⟨g, J, none⟩ (.int .u8 (y : Int))).drew := ⟨_, rfl⟩
    have hb4 : Blk w4 p [.slice (some ⟨g, 0, none⟩) N c3, .int .i64 (L : Int)] 138 := hw4 ▸ (HB.out.2.set_other ⟨g, J, none⟩ _ (fun e => hgp e.symm)).drew
    have ho4 : Own w4 0 (some ⟨g, 0, none⟩) N c3 (P ++ [UInt8.ofNat y]) := by
      have h5 := HB.out.1.set J (UInt8.ofNat y)
      have e : (P ++ [UInt8.ofNat x]).set J (UInt8.ofNat y) = P ++ [UInt8.ofNat y] := by rw [← HPL.out, List.set_append_right _ _ (Nat.le_refl _)]; simp
      rw [e, UInt8.toNat_ofNat', Nat.mod_eq_of_lt hy8] at h5
      rw [hw4]
      exact h5
    have HF4 : Hid (Frm (fun i => i = g) w3 w4) := Lib.hid (hw4 ▸ Frm.drew ((Frm.refl _ w3).setCell g J _ rfl))
    rw [← hw4]
    clear hw4 d0 d1 d2 d3
    have d1 : w4.cell? ⟨p, 1, none⟩ = some (.int .i64 (L : Int)) := hb4.cell 1
    have d4 : w4.frozen? ⟨p, 1, none⟩ = false := hb4.free 1
    have HB4 := Lib.hid (And.intro ho4 hb4)
    clear ho4 hb4
    have q6 : IntKind.i64.wrap ((L : Int) + 1) = ((L + 1 : Nat) : Int) := by rw [IntKind.wrap_i64]; omega
    go_wp2
    refine bodyPost_end (v := .tuple #[]) (by simp [results, Try.results109]) rfl ⟨some ⟨g, 0, none⟩, c3, rfl, ⟨?_, ?_, ?_⟩, ?_, ?_⟩
    · have h5 := HB4.out.2.set 1 (.int .i64 ((L : Int) + 1))
      rw [List.length_append, show (l.length + [b].length + 7) / 8 = N from by rw [← HL.out, HN.out]; simp; omega, show ((l.length + [b].length : Nat) : Int) = (L : Int) + 1 from by rw [← HL.out]; simp]
      exact h5
    · rw [List.length_append, show (l.length + [b].length + 7) / 8 = N from by rw [← HL.out, HN.out]; simp; omega, HP.out]
      exact HB4.out.1.frm (S := fun i => i = p) ((Frm.refl _ w4).setCell p 1 _ rfl) (fun i hi e => hgp ((by simpa [blkOf] using hi : g = i).trans e))
    · intro e; exact hgp (by simpa [blkOf] using e)
    · refine ((HF3.out.step HF4.out (fun i hi => ?_))).setCell p 1 _ (.inl rfl)
      rcases HN2.out i (by rw [hi]; rfl) with h | h
      · exact .inl (.inr h)
      · exact .inr h
    · exact HN2.out
  · have hm1 : ¬ (m : Int) = 0 := by omega
    have e1 : (L + 7) / 8 = J + 1 := by omega
    obtain ⟨N, hN⟩ : ∃ z, z = J + 1 := ⟨_, rfl⟩
    rw [e1, ← hN] at hb ho c0
    rw [h1 hm0] at ho
    have HOO := Lib.hid ho
    have hJN : J < N := by omega
    have HN := Lib.hid hN
    obtain ⟨g, rfl⟩ : ∃ g, A = some ⟨g, 0, none⟩ := by
      obtain ⟨g, cap, hv, _⟩ := World.ownsRow.form ho.2 (by omega)
      injection hv with e
      exact ⟨g, e⟩
    have HBB := Lib.hid hb
    have HAP := Lib.hid hAp0
    have HPL := Lib.hid hPl
    clear hb ho hP hL h0 h1 hAp0 hPl hJ hm hr hz e1 hS hN
    go_enter Try.func109, Try.ntmps109
    go_wp2
    obtain ⟨w3, hw3⟩ : ∃ w3, w3 = w := ⟨_, rfl⟩
    have ho3 : Own w3 0 (some ⟨g, 0, none⟩) N c (P ++ [UInt8.ofNat x]) := hw3 ▸ HOO.out
    have hb3 : Blk w3 p [.slice (some ⟨g, 0, none⟩) N c, .int .i64 (L : Int)] 138 := hw3 ▸ HBB.out
    have hAp := HAP.out
    have HF3 : Hid (Frm (fun i => False) w w3) := Lib.hid (hw3 ▸ Frm.refl _ _)
    rw [← hw3]
    clear c0 c1
    obtain ⟨c3, hc3⟩ : ∃ c3, c3 = c := ⟨_, rfl⟩
    rw [← hc3] at ho3 hb3
    have HC3 := Lib.hid (And.intro hc3 hw3)
    clear hc3 hw3
    have hgp : g ≠ p := fun e => hAp (by rw [e]; rfl)
    have d0 : w3.cell? ⟨p, 0, none⟩ = some (.slice (some ⟨g, 0, none⟩) N c3) := hb3.cell 0
    have d1 : w3.cell? ⟨p, 1, none⟩ = some (.int .i64 (L : Int)) := hb3.cell 1
    have d2 : w3.cell? ⟨g, J, none⟩ = some (.int .u8 (x : Int)) := by
      have := ho3.cell (k := J) (by rw [ho3.len]; omega)
      rw [this]
      have e : (P ++ [UInt8.ofNat x])[J]'(by rw [ho3.len]; omega) = UInt8.ofNat x := by simp [← HPL.out]
      rw [e, UInt8.toNat_ofNat', Nat.mod_eq_of_lt hx8]
    have d3 : w3.frozen? ⟨g, J, none⟩ = false := ho3.free _
    have HB := Lib.hid (And.intro ho3 hb3)
    clear ho3 hb3 hAp
    go_region
    obtain ⟨w4, hw4⟩ : ∃ w4, w4 = (w3.setCell ⟨g, J, none⟩ (.int .u8 (y : Int))).drew := ⟨_, rfl⟩
    have hb4 : Blk w4 p [.slice (some ⟨g, 0, none⟩) N c3, .int .i64 (L : Int)] 138 := hw4 ▸ (HB.out.2.set_other ⟨g, J, none⟩ _ (fun e => hgp e.symm)).drew
    have ho4 : Own w4 0 (some ⟨g, 0, none⟩) N c3 (P ++ [UInt8.ofNat y]) := by
      have h5 := HB.out.1.set J (UInt8.ofNat y)
      have e : (P ++ [UInt8.ofNat x]).set J (UInt8.ofNat y) = P ++ [UInt8.ofNat y] := by rw [← HPL.out, List.set_append_right _ _ (Nat.le_refl _)]; simp
      rw [e, UInt8.toNat_ofNat', Nat.mod_eq_of_lt hy8] at h5
      rw [hw4]
      exact h5
    have HF4 : Hid (Frm (fun i => i = g) w3 w4) := Lib.hid (hw4 ▸ Frm.drew ((Frm.refl _ w3).setCell g J _ rfl))
    rw [← hw4]
    clear hw4 d0 d1 d2 d3
    have d1 : w4.cell? ⟨p, 1, none⟩ = some (.int .i64 (L : Int)) := hb4.cell 1
    have d4 : w4.frozen? ⟨p, 1, none⟩ = false := hb4.free 1
    have HB4 := Lib.hid (And.intro ho4 hb4)
    clear ho4 hb4
    have q6 : IntKind.i64.wrap ((L : Int) + 1) = ((L + 1 : Nat) : Int) := by rw [IntKind.wrap_i64]; omega
    go_wp2
    refine bodyPost_end (v := .tuple #[]) (by simp [results, Try.results109]) rfl ⟨some ⟨g, 0, none⟩, c3, rfl, ⟨?_, ?_, ?_⟩, ?_, ?_⟩
    · have h5 := HB4.out.2.set 1 (.int .i64 ((L : Int) + 1))
      rw [List.length_append, show (l.length + [b].length + 7) / 8 = N from by rw [← HL.out, HN.out]; simp; omega, show ((l.length + [b].length : Nat) : Int) = (L : Int) + 1 from by rw [← HL.out]; simp]
      exact h5
    · rw [List.length_append, show (l.length + [b].length + 7) / 8 = N from by rw [← HL.out, HN.out]; simp; omega, HP.out]
      exact HB4.out.1.frm (S := fun i => i = p) ((Frm.refl _ w4).setCell p 1 _ rfl) (fun i hi e => hgp ((by simpa [blkOf] using hi : g = i).trans e))
    · intro e; exact hgp (by simpa [blkOf] using e)
    · exact ((HF3.out.mono (fun _ h => h.elim)).trans (HF4.out.mono (fun i h => .inr (by rw [h]; rfl)))).setCell p 1 _ (.inl rfl)
    · exact fun i hi => .inl hi
end Go.Proofs.Ytplnmjdafchjbaa

/- Package bit: New, Put, Ones, Len, Bytes. -/
namespace Go.Proofs.Ytplnmjdafchjbaa
open Go.RowKit
set_option linter.unusedVariables false
set_option linter.unusedSimpArgs false

set_option maxRecDepth 100000 in
theorem Wb.frm {w w' : World} {p c : Nat} {A : Option Addr} {l : List Bool} {S : Nat → Prop} (h : Wb w p A c l) (hf : Frm S w w') (hp : ¬ S p) (hA : ∀ g, blkOf A = some g → ¬ S g) : Wb w' p A c l :=
  ⟨hf.blk h.1 hp, h.2.1.frm hf hA, h.2.2⟩
set_option maxRecDepth 100000 in
theorem Wb.lt {w : World} {p c : Nat} {A : Option Addr} {l : List Bool} (h : Wb w p A c l) : ∀ i, WS p A i → i < w.heap.size := fun i hi => by
  rcases hi with rfl | hi
  · exact h.1.lt
  · exact (h.2.1.lt hi).1
set_option maxRecDepth 100000 in
theorem ws_step {p : Nat} {B : Nat} {A A' : Option Addr} (hn : ∀ g, blkOf A' = some g → blkOf A = some g ∨ B ≤ g) : ∀ i, WS p A' i → WS p A i ∨ B ≤ i := fun i hi => by
  rcases hi with rfl | hi
  · exact .inl (.inl rfl)
  · rcases hn i hi with h1 | h1
    · exact .inl (.inr h1)
    · exact .inr h1
set_option maxRecDepth 100000 in
set_option maxHeartbeats 2000000 in
theorem bones_calls (w : World) (p : Nat) (A : Option Addr) (c : Nat) (l : List Bool) (n : Int) (hW : Wb w p A c l) (hl : l.length ≤ 1000000) :
    Calls Try.prog 89 #[.pointer (some ⟨p, 0, none⟩), .int .i64 n] w fun e w' => ∃ A' c', e = .returned (.tuple #[]) ∧ Wb w' p A' c' (l ++ List.replicate (hld n 65536) true) ∧ Frm (WS p A) w w' ∧ ∀ g, blkOf A' = some g → blkOf A = some g ∨ w.heap.size ≤ g := by
  obtain ⟨K, hK⟩ : ∃ z, z = hld n 65536 := ⟨_, rfl⟩
  have hKl : K ≤ 65536 := hK ▸ hld_le n 65536
  have CC : Hid (∀ W, Calls Try.prog 98 #[.int .i64 n, .int .i64 65536] W (fun e w' => e = .returned (.int .i64 (K : Int)) ∧ W = w')) := Lib.hid fun W => by rw [hK]; exact bclamp_calls n 65536 (by omega) W
  have HW := Lib.hid hW
  rw [← hK]
  clear hW hK
  go_enter Try.func89, Try.ntmps89
  go_wp2_with (go_at_call 98; refine (CC.out _).mono ?_; rintro e' w' ⟨rfl, rfl⟩)
  go_loopw [6] (fun cv wr => ∃ (i : Nat) (A' : Option Addr) (c' : Nat), i ≤ K ∧ cv = .int .i64 (i : Int) ∧ Wb wr p A' c' (l ++ List.replicate i true) ∧ Frm (WS p A) w wr ∧ (∀ g, blkOf A' = some g → blkOf A = some g ∨ w.heap.size ≤ g)) (fun cv _ => K - (intOf cv).toNat)
  case atStart => exact ⟨0, A, c, Nat.zero_le _, rfl, by simpa using HW.out, Frm.refl _ _, fun g hg => .inl hg⟩
  case round =>
    obtain ⟨i, A', c', hi, rfl, hWr, hf, hn⟩ := hrel
    by_cases hlt : i < K
    · have hlt' : (i : Int) < (K : Int) := by omega
      have CP := Lib.hid (push_calls wr p A' c' _ true hWr (by simp; omega))
      have HF := Lib.hid (And.intro hf hn)
      clear hWr hf hn
      go_wp2_with (go_at_call 109; refine CP.out.mono ?_; rintro e' w2 ⟨A2, c2, rfl, hW2, hf2, hn2⟩)
      go_roundw
      case rel =>
        refine ⟨i + 1, A2, c2, by omega, by go_num, ?_, ?_, ?_⟩
        · rw [List.replicate_succ', ← List.append_assoc]; exact hW2
        · exact HF.out.1.step hf2 (ws_step HF.out.2)
        · intro g hg
          rcases hn2 g hg with h1 | h1
          · exact HF.out.2 g h1
          · exact .inr (Nat.le_trans HF.out.1.size h1)
      case measure => simp [intOf]; omega
    · have hlt' : ¬ (i : Int) < (K : Int) := by omega
      have e : i = K := by omega
      subst e
      have HH := Lib.hid (And.intro hWr (And.intro hf hn))
      clear hWr hf hn
      go_wp2
      refine bodyPost_end (v := .tuple #[]) (by simp [results, Try.results89]) rfl (by first | exact ⟨A', c', rfl, HH.out⟩ | exact ⟨rfl, A', ⟨c', HH.out.1⟩, HH.out.2⟩)
set_option maxRecDepth 100000 in
theorem u8_low (Y : Nat) : IntKind.u8.wrap (Y : Int) = ((Y % 256 : Nat) : Int) := by rw [IntKind.wrap_u8]; omega
set_option maxRecDepth 100000 in
theorem low_bit (Y : Nat) : bits .and .u8 ((Y % 256 : Nat) : Int) 1 = ((decide (Y % 2 = 1)).toNat : Int) := by
  have h := bit_nat (Y % 256) 0 (Nat.mod_lt _ (by omega))
  rw [Nat.pow_zero, Nat.div_one, Nat.mod_mod_of_dvd _ (by decide)] at h
  rw [h]
  by_cases h1 : Y % 2 = 1
  · rw [decide_eq_true h1, h1]; rfl
  · rw [decide_eq_false h1]; have : Y % 2 = 0 := by omega
    rw [this]; rfl
set_option maxRecDepth 100000 in
set_option maxHeartbeats 2000000 in
theorem bput_calls (w : World) (p : Nat) (A : Option Addr) (c : Nat) (l : List Bool) (n : Nat) (k : Int) (hW : Wb w p A c l) (hl : l.length ≤ 1000000) (hn64 : n < 18446744073709551616) :
    Calls Try.prog 90 #[.pointer (some ⟨p, 0, none⟩), .int .u64 (n : Int), .int .i64 k] w fun e w' => ∃ A' c', e = .returned (.tuple #[]) ∧ Wb w' p A' c' (l ++ bN n (hld k 64)) ∧ Frm (WS p A) w w' ∧ ∀ g, blkOf A' = some g → blkOf A = some g ∨ w.heap.size ≤ g := by
  obtain ⟨K, hK⟩ : ∃ z, z = hld k 64 := ⟨_, rfl⟩
  have hKl : K ≤ 64 := hK ▸ hld_le k 64
  have CC : Hid (∀ W, Calls Try.prog 98 #[.int .i64 k, .int .i64 64] W (fun e w' => e = .returned (.int .i64 (K : Int)) ∧ W = w')) := Lib.hid fun W => by rw [hK]; exact bclamp_calls k 64 (by omega) W
  have HW := Lib.hid hW
  rw [← hK]
  clear hW hK
  go_enter Try.func90, Try.ntmps90
  go_wp2_with (go_at_call 98; refine (CC.out _).mono ?_; rintro e' w' ⟨rfl, rfl⟩)
  go_loopw [10] (fun cv wr => ∃ (i : Nat) (A' : Option Addr) (c' : Nat), i ≤ K ∧ cv = .int .i64 (i : Int) ∧ Wb wr p A' c' (l ++ (bN n K).take i) ∧ Frm (WS p A) w wr ∧ (∀ g, blkOf A' = some g → blkOf A = some g ∨ w.heap.size ≤ g)) (fun cv _ => K - (intOf cv).toNat)
  case atStart => exact ⟨0, A, c, Nat.zero_le _, rfl, by simpa using HW.out, Frm.refl _ _, fun g hg => .inl hg⟩
  case round =>
    obtain ⟨i, A', c', hi, rfl, hWr, hf, hn⟩ := hrel
    by_cases hlt : i < K
    · have hlt' : (i : Int) < (K : Int) := by omega
      obtain ⟨K1, hK1⟩ : ∃ z, z = K - 1 := ⟨_, rfl⟩
      obtain ⟨s, hs⟩ : ∃ z, z = K1 - i := ⟨_, rfl⟩
      obtain ⟨Y, hY⟩ : ∃ z, z = n / 2 ^ s := ⟨_, rfl⟩
      have hs64 : s < 64 := by omega
      have a1 : (K : Int) - 1 = (K1 : Int) := by omega
      have a2 : (K1 : Int) - (i : Int) = (s : Int) := by omega
      have a3 : (n : Int) / 2 ^ s = (Y : Int) := by rw [hY, Int.natCast_ediv, Int.natCast_pow]; rfl
      obtain ⟨v, hv⟩ : ∃ v : Bool, v = decide (Y % 2 = 1) := ⟨_, rfl⟩
      obtain ⟨X, hX⟩ : ∃ z, z = Y % 256 := ⟨_, rfl⟩
      have a4 : IntKind.u8.wrap (Y : Int) = (X : Int) := by rw [hX]; exact u8_low Y
      obtain ⟨z, hz⟩ : ∃ z, z = v.toNat := ⟨_, rfl⟩
      have a5 : bits .and .u8 (X : Int) 1 = (z : Int) := by rw [hX, hz, hv]; exact low_bit Y
      have HT : Hid ((bN n K).take (i + 1) = (bN n K).take i ++ [v]) := Lib.hid (by rw [bN_take n K i hlt, hv, hY, hs, hK1])
      have CP : Hid (Calls Try.prog 109 #[.pointer (some ⟨p, 0, none⟩), .int .u8 (z : Int)] wr fun e w' => ∃ A2 c2, e = .returned (.tuple #[]) ∧ Wb w' p A2 c2 (l ++ (bN n K).take i ++ [v]) ∧ Frm (WS p A') wr w' ∧ ∀ g, blkOf A2 = some g → blkOf A' = some g ∨ wr.heap.size ≤ g) :=
        Lib.hid (by rw [hz]; exact push_calls wr p A' c' _ v hWr (by rw [List.length_append, List.length_take]; omega))
      have HF := Lib.hid (And.intro hf hn)
      clear hWr hf hn hK1 hs hY hv hX hz
      go_wp2_with (go_at_call 109; refine CP.out.mono ?_; rintro e' w2 ⟨A2, c2, rfl, hW2, hf2, hn2⟩)
      go_roundw
      case rel =>
        refine ⟨i + 1, A2, c2, by omega, by go_num, ?_, ?_, ?_⟩
        · rw [HT.out, ← List.append_assoc]; exact hW2
        · exact HF.out.1.step hf2 (ws_step HF.out.2)
        · intro g hg
          rcases hn2 g hg with h1 | h1
          · exact HF.out.2 g h1
          · exact .inr (Nat.le_trans HF.out.1.size h1)
      case measure => simp [intOf]; omega
    · have hlt' : ¬ (i : Int) < (K : Int) := by omega
      have e : i = K := by omega
      subst e
      rw [List.take_of_length_le (by rw [bN_len]; omega)] at hWr
      have HH := Lib.hid (And.intro hWr (And.intro hf hn))
      clear hWr hf hn
      go_wp2
      refine bodyPost_end (v := .tuple #[]) (by simp [results, Try.results90]) rfl (by first | exact ⟨A', c', rfl, HH.out⟩ | exact ⟨rfl, A', ⟨c', HH.out.1⟩, HH.out.2⟩)
set_option maxRecDepth 100000 in
set_option maxHeartbeats 400000 in
theorem bwbytes_calls (w : World) (p : Nat) (A : Option Addr) (c : Nat) (l : List Bool) (hW : Wb w p A c l) (hl : l.length ≤ 1000000) :
    Calls Try.prog 51 #[.pointer (some ⟨p, 0, none⟩)] w (Mk w (pack l)) := by
  obtain ⟨N, hN⟩ : ∃ z, z = (l.length + 7) / 8 := ⟨_, rfl⟩
  have hc0 : w.cell? ⟨p, 0, none⟩ = some (.slice A N c) := by rw [hN]; exact hW.1.cell 0
  have ho := hW.2.1
  rw [← hN] at ho
  have HC := Lib.hid (clone_calls A N c (pack l) w (by omega) ho.rd)
  clear hW ho hN
  go_enter Try.func51, Try.ntmps51
  go_wp2_with (go_at_call 54; refine HC.out.mono ?_; rintro e' w1 ⟨A1, n1, c1, rfl, ho1, hb1⟩)
  go_ret
  exact ⟨A1, n1, c1, rfl, ho1, hb1⟩
set_option maxRecDepth 100000 in
set_option maxHeartbeats 400000 in
theorem bwnew_calls (w : World) : Calls Try.prog 49 #[] w fun e w' => e = .returned (.pointer (some ⟨w.heap.size, 0, none⟩)) ∧ Wb w' w.heap.size none 0 [] ∧ Below w.heap.size w w' := by
  go_enter Try.func49, Try.ntmps49
  go_wp2
  go_ret
  exact ⟨rfl, ⟨Blk.new _ _ _, Own.nil _ _, by simp [blkOf]⟩, (Below.refl _ _).alloc (Nat.le_refl _) _⟩
end Go.Proofs.Ytplnmjdafchjbaa
