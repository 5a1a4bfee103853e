/- The contract of wide.Text: the decimal digits. -/
import Derived.Test.YthbbeknbdgkpkaaWidC
import Derived.Test.YthbbeknbdgkpkaaWidQ
import Derived.Test.YthbbeknbdgkpkaaRet
import Derived.Test.YthbbeknbdgkpkaaPlain
namespace Go.Proofs.Ythbbeknbdgkpkaa
open Go.RowKit
set_option linter.unusedVariables false

/-- The array of digits: the last ones are there. -/
def digA (acc : List UInt8) : List Value := List.replicate (78 - acc.length) (.int .u8 0) ++ acc.map B8
theorem digA_len (acc : List UInt8) (h : acc.length ≤ 78) : (digA acc).length = 78 := by simp [digA]; omega
theorem digA_set (acc : List UInt8) (c : UInt8) (h : acc.length < 78) : (digA acc).set (77 - acc.length) (B8 c) = digA (c :: acc) := by
  unfold digA
  have e : 78 - acc.length = (77 - acc.length) + 1 := by omega
  rw [e, List.replicate_succ', List.append_assoc, List.set_append_right _ _ (by simp)]
  simp only [List.length_replicate, Nat.sub_self, List.singleton_append, List.set_cons_zero, List.length_cons, List.map_cons]
  congr 2
  omega
theorem digA_at (acc : List UInt8) (h : acc.length < 78) : (digA acc)[77 - acc.length]? = some (.int .u8 0) := by
  unfold digA
  rw [List.getElem?_append_left (by simp; omega), List.getElem?_replicate, if_pos (by omega)]
theorem digA_tail (acc : List UInt8) (h : acc.length ≤ 78) (j : Nat) (hj : j < acc.length) : (digA acc)[78 - acc.length + j]? = some (.int .u8 (acc[j].toNat : Int)) := by
  unfold digA
  rw [List.getElem?_append_right (by simp)]
  simp [List.getElem?_eq_getElem hj, B8]
theorem decT_last (k : Nat) (h : k / 10 = 0) : decT k = [UInt8.ofNat (48 + k % 10)] := by
  unfold decT
  split
  · rename_i h0; subst h0; rfl
  · rename_i h0; rw [decL_pos h0, h, decL_zero]; rfl
theorem decT_more (k : Nat) (h : k / 10 ≠ 0) : decT k = decT (k / 10) ++ [UInt8.ofNat (48 + k % 10)] := by
  unfold decT
  rw [if_neg (by omega), if_neg h, decL_pos (by omega)]
theorem dec_bound (x k m : Nat) (hx : x < 2 ^ 256) (hk : 0 < k) (h : k * 10 ^ m ≤ x) : m ≤ 77 := by
  rcases Nat.lt_or_ge m 78 with h1 | h1
  · omega
  · exfalso
    have h2 : 10 ^ 78 ≤ 10 ^ m := Nat.pow_le_pow_right (by decide) h1
    have h3 : 10 ^ m ≤ k * 10 ^ m := Nat.le_mul_of_pos_left _ hk
    have h4 : 2 ^ 256 < 10 ^ 78 := by decide
    omega

def dig0 : Array Value := (List.replicate 78 (Value.int .u8 0)).toArray
theorem info78 : (Try.prog.info? 71).map (·.zero) = some (some (.agg dig0)) := by kernel_rfl
theorem zero78 (w : World) : (zeroValue 71).run Try.prog w = .ok (.agg dig0) w := by
  obtain ⟨i, hi, hz⟩ := Option.map_eq_some_iff.1 info78
  simp [zeroValue, typeInfo, hi, hz]
theorem dig0_list : dig0.toList = digA [] := by simp [dig0, digA]
theorem size78 : (Try.prog.info? 71).map (·.size) = some 78 := by kernel_rfl

set_option maxRecDepth 10000 in
set_option maxHeartbeats 8000000 in
theorem text_calls (x : Nat) (w : World) (hx : x < 2 ^ 256) :
    Calls Try.prog 36 #[.agg (uA x)] w (Ret w (.string (str (decT x)))) := by
  have HX := Lib.hid hx
  obtain ⟨R, hR⟩ : ∃ R, R = decT x := ⟨_, rfl⟩
  rw [← hR]
  have HR := Lib.hid hR
  have CD : Hid (∀ k W, k < 2 ^ 256 → Calls Try.prog 26 #[.agg (cellsW (wd k)).toArray, .int .u64 10] W (Ret W (.tuple #[.agg (cellsW (wd (k / 10))).toArray, .int .u64 ((k % 10 : Nat) : Int)]))) := Lib.hid fun k W hk => div_calls k 10 W hk (by decide) (by decide)
  obtain ⟨Z, hZ⟩ : ∃ Z, Z = dig0 := ⟨_, rfl⟩
  have hz := fun W => zero78 W
  rw [← hZ] at hz
  have HZ : Hid (Z.toList = digA []) := Lib.hid (by rw [hZ]; exact dig0_list)
  have gU := guardU
  unfold uA
  clear hx hR hZ
  go_enter Try.func36, Try.ntmps36
  go_wp2
  clear hz
  go_loopw [4] (fun fv wr => ∃ (k : Nat) (acc : List UInt8), fv = .int .i64 ((78 - acc.length : Nat) : Int) ∧ acc.length ≤ 77 ∧ Blk wr w.heap.size (cellsW (wd k)) 24 ∧ Blk wr (w.heap.size + 1) (digA acc) 71 ∧ Hid (k < 2 ^ 256 ∧ R = decT k ++ acc ∧ k * 10 ^ acc.length ≤ x) ∧ Below w.heap.size w wr) (fun fv _ => (intOf fv).toNat)
  case atStart =>
    exact ⟨x, [], rfl, by simp, (Blk.new w _ _).alloc _, by rw [← HZ.out]; exact Blk.new' (w.alloc _) _ _ _ (by simp), ⟨HX.out, by rw [HR.out]; simp, by simp⟩, ((Below.refl _ w).alloc (Nat.le_refl _) _).alloc (by simp) _⟩
  case round =>
    obtain ⟨k, acc, rfl, hacc, hba, hbd, HK, hbel⟩ := hrel
    obtain ⟨hk, hRk, hkx⟩ := HK.out
    obtain ⟨n, hn⟩ : ∃ n, n = 78 - acc.length := ⟨_, rfl⟩
    obtain ⟨m, hm⟩ : ∃ m, m = 77 - acc.length := ⟨_, rfl⟩
    obtain ⟨d, hd⟩ : ∃ d, d = k % 10 := ⟨_, rfl⟩
    obtain ⟨q, hq⟩ : ∃ q, q = k / 10 := ⟨_, rfl⟩
    obtain ⟨c, hc⟩ : ∃ c : UInt8, c = UInt8.ofNat (48 + d) := ⟨_, rfl⟩
    have hct : c.toNat = 48 + d := by rw [hc, ofNat_toNat]; omega
    have CT0 := CD.out k wr hk
    rw [← hd, ← hq] at CT0
    have CT := Lib.hid CT0
    have ld : d < 10 := by omega
    have e1 : IntKind.i64.wrap ((n : Int) - 1) = (m : Int) := by rw [IntKind.wrap_i64]; omega
    have e1b : (n : Int) - 1 = (m : Int) := by omega
    have e2 : IntKind.u8.wrap (d : Int) = (d : Int) := by rw [IntKind.wrap_u8]; omega
    have e3 : IntKind.u8.wrap (48 + (d : Int)) = (c.toNat : Int) := by rw [IntKind.wrap_u8]; omega
    have bm : (m : Int) < 78 := by omega
    have FIN : Hid (∀ w1 w2, Below wr.heap.size wr w1 → Blk w2 w1.heap.size (cellsW (wd q)) 24 → Only w1.heap.size (w1.alloc (.cells #[.int .u64 0, .int .u64 0, .int .u64 0, .int .u64 0] 24)) w2 → w2.cell? ⟨w.heap.size + 1, m, none⟩ = some (.int .u8 0) ∧ w2.frozen? ⟨w.heap.size + 1, m, none⟩ = false ∧
        Hid (Blk (w2.setCell ⟨w.heap.size + 1, m, none⟩ (.int .u8 (c.toNat : Int))) w1.heap.size (cellsW (wd q)) 24 ∧ Blk (w2.setCell ⟨w.heap.size + 1, m, none⟩ (.int .u8 (c.toNat : Int))) w.heap.size (cellsW (wd k)) 24 ∧ Blk (w2.setCell ⟨w.heap.size + 1, m, none⟩ (.int .u8 (c.toNat : Int))) (w.heap.size + 1) (digA (c :: acc)) 71 ∧ Below w.heap.size w (w2.setCell ⟨w.heap.size + 1, m, none⟩ (.int .u8 (c.toNat : Int))))) := Lib.hid fun w1 w2 b1 hb2 ho2 => by
      have l1 := b1.size
      have l2 := hbd.lt
      have d1 : Blk w2 (w.heap.size + 1) (digA acc) 71 := ho2.blk ((hbd.below b1 hbd.lt).alloc _) (by omega)
      have d2 : Blk w2 w.heap.size (cellsW (wd k)) 24 := ho2.blk ((hba.below b1 hba.lt).alloc _) (by omega)
      have d3 : Below w.heap.size w w2 := ((hbel.trans (b1.mono hbel.size)).alloc (by omega) _).trans (ho2.below (by omega))
      refine ⟨by rw [d1.cell, hm, digA_at acc (by omega)], d1.free _, hb2.set_other _ _ (by simp; omega), d2.set_other _ _ (by simp), ?_, d3.setCell (by simp) _⟩
      rw [← digA_set acc c (by omega), ← hm]
      exact d1.set m _
    have hsl : ∀ W, (Instr.sliceAt 71 (.pointer (some ⟨w.heap.size + 1, 0, none⟩)) (some (.int .i64 (m : Int))) none none).run Try.prog W = .ok (.slice (some ⟨w.heap.size + 1, m, none⟩) (78 - m) (78 - m)) W := fun W => by
      have h := run_sl_l (P := Try.prog) 71 5 78 Try.underlying71 size8 (w.heap.size + 1) 0 m (m : Int) rfl (by omega) W
      rw [Nat.zero_add] at h
      exact h
    have HCV : Hid (∀ W, Blk W (w.heap.size + 1) (digA (c :: acc)) 71 → (convert 67 9 (.slice (some ⟨w.heap.size + 1, m, none⟩) (78 - m) (78 - m))).run Try.prog W = .ok (.string (str (c :: acc))) W) := Lib.hid fun W hW =>
      conv8 W _ (78 - m) (78 - m) (c :: acc) (hW.rd m (78 - m) (c :: acc) (by simp; omega) (fun j hj => by
        have h := digA_tail (c :: acc) (by simp; omega) j hj
        rw [show 78 - (c :: acc).length = m from by simp; omega] at h
        exact h))
    have lq : q < 2 ^ 256 := by omega
    rw [← hn]
    have HB := Lib.hid (And.intro hba (And.intro hbd hbel))
    by_cases hq0 : q = 0
    · have HF : Hid (R = c :: acc) := Lib.hid (by rw [hRk, decT_last k (by omega), hc, hd]; rfl)
      have heq : ∀ W, (Op.equalIn 10000 24 (.agg (cellsW (wd q)).toArray) (.agg #[.int .u64 0, .int .u64 0, .int .u64 0, .int .u64 0])).run Try.prog W = .ok true W := fun W => by rw [hq0]; exact u_same 0 W
      clear hba hbd hbel hRk hkx HK hn hm hd hq hc hct hk CT0 hq0
      go_wp2_with (first
        | (refine at_load 24 (.tmp 1) ?_; refine wpList_load_mid rfl 24 (.tmp 1) rfl w.heap.size 0 rfl (cellsW (wd k)) _ HB.out.1.range Try.underlying24 rfl (sizeW _) ?_)
        | (go_at_call 26; refine CT.out.mono ?_; rintro e' w1 ⟨rfl, b1⟩)
        | (refine at_store 24 (.tmp 5) (.tmp 10) ?_; refine wpList_store_blk rfl 24 (.tmp 5) (.tmp 10) rfl w1.heap.size zerosW (cellsW (wd q)) _ rfl rfl (Blk.new w1 _ _) rfl (sizeW _) (cellsW_one _) ?_; intro w2 hb2 ho2; obtain ⟨fc, ff, FX⟩ := FIN.out w1 w2 b1 hb2 ho2; have hcv := HCV.out _ FX.out.2.2.1)
        | (refine at_load 24 (.tmp 5) ?_; refine wpList_load_mid rfl 24 (.tmp 5) rfl w1.heap.size 0 rfl (cellsW (wd q)) _ FX.out.1.range Try.underlying24 rfl (sizeW _) ?_))
      go_ret
      exact ⟨by rw [HF.out]; rfl, FX.out.2.2.2⟩
    · have hten : q * 10 ^ (acc.length + 1) ≤ x := by
        refine Nat.le_trans ?_ hkx
        rw [Nat.pow_succ, Nat.mul_comm (10 ^ acc.length), ← Nat.mul_assoc]
        exact Nat.mul_le_mul_right _ (by omega)
      have HN : Hid ((c :: acc).length ≤ 77 ∧ q < 2 ^ 256 ∧ R = decT q ++ (c :: acc) ∧ q * 10 ^ (c :: acc).length ≤ x) := Lib.hid ⟨by rw [List.length_cons]; exact dec_bound x q _ HX.out (by omega) hten, lq, by rw [hRk, decT_more k (by omega), List.append_assoc, hc, hd, hq]; rfl, by rw [List.length_cons]; exact hten⟩
      have heq : ∀ W, (Op.equalIn 10000 24 (.agg (cellsW (wd q)).toArray) (.agg #[.int .u64 0, .int .u64 0, .int .u64 0, .int .u64 0])).run Try.prog W = .ok false W := fun W => by
        have h := u_equal q 0 lq (by decide) W
        rw [decide_eq_false hq0] at h
        exact h
      have HM : Hid ((m : Int) = ((78 - (c :: acc).length : Nat) : Int) ∧ m < n) := Lib.hid ⟨by rw [List.length_cons]; omega, by omega⟩
      clear hba hbd hbel hRk hkx HK hn hm hd hq hc hct hk CT0 hq0 hten hsl HCV
      go_wp2_with (first
        | (refine at_load 24 (.tmp 1) ?_; refine wpList_load_mid rfl 24 (.tmp 1) rfl w.heap.size 0 rfl (cellsW (wd k)) _ HB.out.1.range Try.underlying24 rfl (sizeW _) ?_)
        | (go_at_call 26; refine CT.out.mono ?_; rintro e' w1 ⟨rfl, b1⟩)
        | (refine at_store 24 (.tmp 5) (.tmp 10) ?_; refine wpList_store_blk rfl 24 (.tmp 5) (.tmp 10) rfl w1.heap.size zerosW (cellsW (wd q)) _ rfl rfl (Blk.new w1 _ _) rfl (sizeW _) (cellsW_one _) ?_; intro w2 hb2 ho2; obtain ⟨fc, ff, FX⟩ := FIN.out w1 w2 b1 hb2 ho2)
        | (refine at_load 24 (.tmp 5) ?_; refine wpList_load_mid rfl 24 (.tmp 5) rfl w1.heap.size 0 rfl (cellsW (wd q)) _ FX.out.1.range Try.underlying24 rfl (sizeW _) ?_)
        | (refine at_store 24 (.tmp 1) (.tmp 25) ?_; refine wpList_store_blk rfl 24 (.tmp 1) (.tmp 25) rfl w.heap.size (cellsW (wd k)) (cellsW (wd q)) _ rfl rfl FX.out.2.1 rfl (sizeW _) (cellsW_one _) ?_; intro w4 hb4 ho4))
      refine ⟨?_, ?_⟩
      · iterate 23 apply Exists.intro
        exact ⟨⟨q, c :: acc, by rw [HM.out.1], HN.out.1, hb4, ho4.blk FX.out.2.2.1 (by omega), HN.out.2, FX.out.2.2.2.trans (ho4.below (Nat.le_refl _))⟩, rfl⟩
      · simp [intOf]; exact HM.out.2
end Go.Proofs.Ythbbeknbdgkpkaa
