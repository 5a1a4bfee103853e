/- Merged texts: CodD. -/
import Derived.Test.YthkkllcpogagiaaMal
/- The contracts of the document's own Count and Words of layer 6. -/
namespace Go.Proofs.Ythkkllcpogagiaa
open Go.RowKit
set_option linter.unusedVariables false

set_option maxRecDepth 100000 in
theorem idx_str (c0 : UInt8) (r : List UInt8) (W : World) : (Instr.index 9 (.string ⟨(c0 :: r).toArray⟩) (.int .i64 0)).run Try.prog W = .ok (.int .u8 (c0.toNat : Int)) W := by
  simp [Instr.index, run_underlying Try.underlying9, asIntOf, go_sem]
  try rfl
set_option maxRecDepth 100000 in
theorem ext0 (c0 : UInt8) (r : List UInt8) (m : Nat) : (⟨(c0 :: r).toArray⟩ : ByteArray).extract 0 (1 + m) = ⟨(c0 :: r.take m).toArray⟩ := by
  rw [ByteArray.extract_mk, List.drop_zero, Nat.sub_zero, Nat.add_comm 1, List.take_succ_cons]
set_option maxRecDepth 100000 in
theorem ext1 (c0 : UInt8) (r : List UInt8) (m : Nat) : (⟨(c0 :: r).toArray⟩ : ByteArray).extract 1 (1 + m) = ⟨(r.take m).toArray⟩ := by
  rw [ByteArray.extract_mk, List.drop_succ_cons, List.drop_zero, Nat.add_sub_cancel_left]
set_option maxRecDepth 100000 in
theorem ext2 (c0 : UInt8) (r : List UInt8) (m : Nat) : (⟨(c0 :: r).toArray⟩ : ByteArray).extract (1 + m) (r.length + 1) = ⟨(r.drop m).toArray⟩ := by
  rw [bstr_from _ _ _ (by simp), Nat.add_comm 1, List.drop_succ_cons]
set_option maxRecDepth 100000 in
theorem first_cons (c : UInt8) (r : List UInt8) (most : Nat) : first (c :: r) most = if r.length < foll c then (0, 0, 2) else if foll c ≠ more (cval c r) then (0, 0, 3) else if most < cval c r then (0, 0, 4) else (cval c r, 1 + foll c, 0) := rfl
set_option maxRecDepth 100000 in
theorem dcount_c253 (r : List UInt8) (most : Nat) (hl : r.length ≤ 1000000) (w : World) :
    Calls Try.prog 24 #[.agg (inC ((253 : UInt8) :: r) 0).toArray, .int .u64 (most : Int)] w (Ret w (.tuple #[.agg (inC (((253 : UInt8) :: r).drop (first ((253 : UInt8) :: r) most).2.1) (first ((253 : UInt8) :: r) most).2.2).toArray, .int .u64 ((first ((253 : UInt8) :: r) most).1 : Int)])) := by
  have hf : foll (253 : UInt8) = 2 := rfl
  have hidx := idx_str (253 : UInt8) r
  have hsz : (⟨((253 : UInt8) :: r).toArray⟩ : ByteArray).size = r.length + 1 := by rw [bstr_size]; simp
  rw [first_cons, hf]
  by_cases hs : r.length < 2
  · rw [if_pos hs]
    exact dcount_short253 _ most (r.length + 1) 253 rfl hidx hsz (by omega) (by omega) w
  rw [if_neg hs]
  obtain ⟨v, hv⟩ : ∃ v, v = cval (253 : UInt8) r := ⟨_, rfl⟩
  have hv64 : v < 18446744073709551616 := hv ▸ cval_lt (253 : UInt8) r
  have hul : (r.take 2).length = 2 := by rw [List.length_take]; omega
  have hvu : numL ((r.take 2).take 8) = v := by
    rw [List.take_of_length_le (by omega), hv]
    rw [cval_pos (by rw [hf]; omega), hf]
  have HCT : ∀ W, ∃ A cc w', (convert 9 22 (.string ((⟨((253 : UInt8) :: r).toArray⟩ : ByteArray).extract 1 3))).run Try.prog W = .ok (.slice A 2 cc) w' ∧ Rd w' A 2 (r.take 2) ∧ Below W.heap.size W w' := fun W => by
    rw [show (⟨((253 : UInt8) :: r).toArray⟩ : ByteArray).extract 1 3 = ⟨(r.take 2).toArray⟩ from ext1 (253 : UInt8) r 2]
    have h := conv_text W (r.take 2) (by omega)
    rw [hul] at h
    exact h
  have CVL : ∀ W A cc, Rd W A 2 (r.take 2) → Calls Try.prog 41 #[.slice A 2 cc] W fun e w' => e = .returned (.int .u64 (v : Int)) ∧ W = w' := fun W A cc h => by
    have hc := value_calls A 2 cc (r.take 2) W (by omega) h
    rw [hvu] at hc
    exact hc
  have hlr : foll (253 : UInt8) ≤ r.length := by rw [hf]; omega
  have hsp := spell_iff hlr
  rw [hf, ← hv] at hsp
  have he0 : (⟨((253 : UInt8) :: r).toArray⟩ : ByteArray).extract 0 3 = ⟨((253 : UInt8) :: r.take 2).toArray⟩ := ext0 (253 : UInt8) r 2
  rw [← hv]
  by_cases hm : 2 = more v
  · rw [if_neg (fun h => h hm)]
    have CV : ∀ W, Calls Try.prog 42 #[.int .u64 (v : Int)] W (Ret W (.string ((⟨((253 : UInt8) :: r).toArray⟩ : ByteArray).extract 0 3))) := fun W => by
      rw [he0, ← hsp.2 hm]
      exact nvar_calls v hv64 W
    by_cases hmo : most < v
    · rw [if_pos hmo]
      exact dcount_big253 _ most (r.length + 1) v 253 rfl hidx hsz (by omega) HCT CVL CV hmo w
    · rw [if_neg hmo]
      have h := dcount_ok253 _ most (r.length + 1) v 253 rfl hidx hsz (by omega) HCT CVL _ CV hmo (ext2 (253 : UInt8) r 2) w
      rw [show ((253 : UInt8) :: r).drop ((v, 1 + 2, 0) : Nat × Nat × Nat).2.1 = r.drop 2 from by show ((253 : UInt8) :: r).drop (1 + 2) = _; rw [Nat.add_comm 1, List.drop_succ_cons]]
      exact h
  · rw [if_pos hm]
    exact dcount_bad253 _ most (r.length + 1) v 253 rfl hidx hsz (by omega) HCT CVL _ (fun W => nvar_calls v hv64 W) (by rw [he0]; simp only [ByteArray.toList_mk]; exact fun h => hm (hsp.1 h)) w
set_option maxRecDepth 100000 in
theorem dcount_c254 (r : List UInt8) (most : Nat) (hl : r.length ≤ 1000000) (w : World) :
    Calls Try.prog 24 #[.agg (inC ((254 : UInt8) :: r) 0).toArray, .int .u64 (most : Int)] w (Ret w (.tuple #[.agg (inC (((254 : UInt8) :: r).drop (first ((254 : UInt8) :: r) most).2.1) (first ((254 : UInt8) :: r) most).2.2).toArray, .int .u64 ((first ((254 : UInt8) :: r) most).1 : Int)])) := by
  have hf : foll (254 : UInt8) = 4 := rfl
  have hidx := idx_str (254 : UInt8) r
  have hsz : (⟨((254 : UInt8) :: r).toArray⟩ : ByteArray).size = r.length + 1 := by rw [bstr_size]; simp
  rw [first_cons, hf]
  by_cases hs : r.length < 4
  · rw [if_pos hs]
    exact dcount_short254 _ most (r.length + 1) 254 rfl hidx hsz (by omega) (by omega) w
  rw [if_neg hs]
  obtain ⟨v, hv⟩ : ∃ v, v = cval (254 : UInt8) r := ⟨_, rfl⟩
  have hv64 : v < 18446744073709551616 := hv ▸ cval_lt (254 : UInt8) r
  have hul : (r.take 4).length = 4 := by rw [List.length_take]; omega
  have hvu : numL ((r.take 4).take 8) = v := by
    rw [List.take_of_length_le (by omega), hv]
    rw [cval_pos (by rw [hf]; omega), hf]
  have HCT : ∀ W, ∃ A cc w', (convert 9 22 (.string ((⟨((254 : UInt8) :: r).toArray⟩ : ByteArray).extract 1 5))).run Try.prog W = .ok (.slice A 4 cc) w' ∧ Rd w' A 4 (r.take 4) ∧ Below W.heap.size W w' := fun W => by
    rw [show (⟨((254 : UInt8) :: r).toArray⟩ : ByteArray).extract 1 5 = ⟨(r.take 4).toArray⟩ from ext1 (254 : UInt8) r 4]
    have h := conv_text W (r.take 4) (by omega)
    rw [hul] at h
    exact h
  have CVL : ∀ W A cc, Rd W A 4 (r.take 4) → Calls Try.prog 41 #[.slice A 4 cc] W fun e w' => e = .returned (.int .u64 (v : Int)) ∧ W = w' := fun W A cc h => by
    have hc := value_calls A 4 cc (r.take 4) W (by omega) h
    rw [hvu] at hc
    exact hc
  have hlr : foll (254 : UInt8) ≤ r.length := by rw [hf]; omega
  have hsp := spell_iff hlr
  rw [hf, ← hv] at hsp
  have he0 : (⟨((254 : UInt8) :: r).toArray⟩ : ByteArray).extract 0 5 = ⟨((254 : UInt8) :: r.take 4).toArray⟩ := ext0 (254 : UInt8) r 4
  rw [← hv]
  by_cases hm : 4 = more v
  · rw [if_neg (fun h => h hm)]
    have CV : ∀ W, Calls Try.prog 42 #[.int .u64 (v : Int)] W (Ret W (.string ((⟨((254 : UInt8) :: r).toArray⟩ : ByteArray).extract 0 5))) := fun W => by
      rw [he0, ← hsp.2 hm]
      exact nvar_calls v hv64 W
    by_cases hmo : most < v
    · rw [if_pos hmo]
      exact dcount_big254 _ most (r.length + 1) v 254 rfl hidx hsz (by omega) HCT CVL CV hmo w
    · rw [if_neg hmo]
      have h := dcount_ok254 _ most (r.length + 1) v 254 rfl hidx hsz (by omega) HCT CVL _ CV hmo (ext2 (254 : UInt8) r 4) w
      rw [show ((254 : UInt8) :: r).drop ((v, 1 + 4, 0) : Nat × Nat × Nat).2.1 = r.drop 4 from by show ((254 : UInt8) :: r).drop (1 + 4) = _; rw [Nat.add_comm 1, List.drop_succ_cons]]
      exact h
  · rw [if_pos hm]
    exact dcount_bad254 _ most (r.length + 1) v 254 rfl hidx hsz (by omega) HCT CVL _ (fun W => nvar_calls v hv64 W) (by rw [he0]; simp only [ByteArray.toList_mk]; exact fun h => hm (hsp.1 h)) w
set_option maxRecDepth 100000 in
theorem dcount_c255 (r : List UInt8) (most : Nat) (hl : r.length ≤ 1000000) (w : World) :
    Calls Try.prog 24 #[.agg (inC ((255 : UInt8) :: r) 0).toArray, .int .u64 (most : Int)] w (Ret w (.tuple #[.agg (inC (((255 : UInt8) :: r).drop (first ((255 : UInt8) :: r) most).2.1) (first ((255 : UInt8) :: r) most).2.2).toArray, .int .u64 ((first ((255 : UInt8) :: r) most).1 : Int)])) := by
  have hf : foll (255 : UInt8) = 8 := rfl
  have hidx := idx_str (255 : UInt8) r
  have hsz : (⟨((255 : UInt8) :: r).toArray⟩ : ByteArray).size = r.length + 1 := by rw [bstr_size]; simp
  rw [first_cons, hf]
  by_cases hs : r.length < 8
  · rw [if_pos hs]
    exact dcount_short255 _ most (r.length + 1) 255 rfl hidx hsz (by omega) (by omega) w
  rw [if_neg hs]
  obtain ⟨v, hv⟩ : ∃ v, v = cval (255 : UInt8) r := ⟨_, rfl⟩
  have hv64 : v < 18446744073709551616 := hv ▸ cval_lt (255 : UInt8) r
  have hul : (r.take 8).length = 8 := by rw [List.length_take]; omega
  have hvu : numL ((r.take 8).take 8) = v := by
    rw [List.take_of_length_le (by omega), hv]
    rw [cval_pos (by rw [hf]; omega), hf]
  have HCT : ∀ W, ∃ A cc w', (convert 9 22 (.string ((⟨((255 : UInt8) :: r).toArray⟩ : ByteArray).extract 1 9))).run Try.prog W = .ok (.slice A 8 cc) w' ∧ Rd w' A 8 (r.take 8) ∧ Below W.heap.size W w' := fun W => by
    rw [show (⟨((255 : UInt8) :: r).toArray⟩ : ByteArray).extract 1 9 = ⟨(r.take 8).toArray⟩ from ext1 (255 : UInt8) r 8]
    have h := conv_text W (r.take 8) (by omega)
    rw [hul] at h
    exact h
  have CVL : ∀ W A cc, Rd W A 8 (r.take 8) → Calls Try.prog 41 #[.slice A 8 cc] W fun e w' => e = .returned (.int .u64 (v : Int)) ∧ W = w' := fun W A cc h => by
    have hc := value_calls A 8 cc (r.take 8) W (by omega) h
    rw [hvu] at hc
    exact hc
  have hlr : foll (255 : UInt8) ≤ r.length := by rw [hf]; omega
  have hsp := spell_iff hlr
  rw [hf, ← hv] at hsp
  have he0 : (⟨((255 : UInt8) :: r).toArray⟩ : ByteArray).extract 0 9 = ⟨((255 : UInt8) :: r.take 8).toArray⟩ := ext0 (255 : UInt8) r 8
  rw [← hv]
  by_cases hm : 8 = more v
  · rw [if_neg (fun h => h hm)]
    have CV : ∀ W, Calls Try.prog 42 #[.int .u64 (v : Int)] W (Ret W (.string ((⟨((255 : UInt8) :: r).toArray⟩ : ByteArray).extract 0 9))) := fun W => by
      rw [he0, ← hsp.2 hm]
      exact nvar_calls v hv64 W
    by_cases hmo : most < v
    · rw [if_pos hmo]
      exact dcount_big255 _ most (r.length + 1) v 255 rfl hidx hsz (by omega) HCT CVL CV hmo w
    · rw [if_neg hmo]
      have h := dcount_ok255 _ most (r.length + 1) v 255 rfl hidx hsz (by omega) HCT CVL _ CV hmo (ext2 (255 : UInt8) r 8) w
      rw [show ((255 : UInt8) :: r).drop ((v, 1 + 8, 0) : Nat × Nat × Nat).2.1 = r.drop 8 from by show ((255 : UInt8) :: r).drop (1 + 8) = _; rw [Nat.add_comm 1, List.drop_succ_cons]]
      exact h
  · rw [if_pos hm]
    exact dcount_bad255 _ most (r.length + 1) v 255 rfl hidx hsz (by omega) HCT CVL _ (fun W => nvar_calls v hv64 W) (by rw [he0]; simp only [ByteArray.toList_mk]; exact fun h => hm (hsp.1 h)) w
set_option maxRecDepth 100000 in
theorem dcount_clow (c0 : UInt8) (h1 : c0 ≠ 253) (h2 : c0 ≠ 254) (h3 : c0 ≠ 255) (r : List UInt8) (most : Nat) (hl : r.length ≤ 1000000) (w : World) :
    Calls Try.prog 24 #[.agg (inC (c0 :: r) 0).toArray, .int .u64 (most : Int)] w (Ret w (.tuple #[.agg (inC ((c0 :: r).drop (first (c0 :: r) most).2.1) (first (c0 :: r) most).2.2).toArray, .int .u64 ((first (c0 :: r) most).1 : Int)])) := by
  have hf : foll c0 = 0 := by simp [foll, h1, h2, h3]
  have hidx := idx_str c0 r
  have hsz : (⟨(c0 :: r).toArray⟩ : ByteArray).size = r.length + 1 := by rw [bstr_size]; simp
  rw [first_cons, hf]
  rw [if_neg (Nat.not_lt_zero _)]
  obtain ⟨v, hv⟩ : ∃ v, v = cval c0 r := ⟨_, rfl⟩
  have hv64 : v < 18446744073709551616 := hv ▸ cval_lt c0 r
  have hul : [c0].length = 1 := by rfl
  have hvu : numL ([c0].take 8) = v := by
    rw [List.take_of_length_le (by omega), hv]
    rw [cval_zero hf]; simp [numL]
  have HCT : ∀ W, ∃ A cc w', (convert 9 22 (.string ((⟨(c0 :: r).toArray⟩ : ByteArray).extract 0 1))).run Try.prog W = .ok (.slice A 1 cc) w' ∧ Rd w' A 1 [c0] ∧ Below W.heap.size W w' := fun W => by
    rw [show (⟨(c0 :: r).toArray⟩ : ByteArray).extract 0 1 = ⟨[c0].toArray⟩ from ext0 c0 r 0]
    have h := conv_text W [c0] (by omega)
    rw [hul] at h
    exact h
  have CVL : ∀ W A cc, Rd W A 1 [c0] → Calls Try.prog 41 #[.slice A 1 cc] W fun e w' => e = .returned (.int .u64 (v : Int)) ∧ W = w' := fun W A cc h => by
    have hc := value_calls A 1 cc [c0] W (by omega) h
    rw [hvu] at hc
    exact hc
  have hlr : foll c0 ≤ r.length := by rw [hf]; omega
  have hsp := spell_iff hlr
  rw [hf, ← hv] at hsp
  have he0 : (⟨(c0 :: r).toArray⟩ : ByteArray).extract 0 1 = ⟨(c0 :: r.take 0).toArray⟩ := ext0 c0 r 0
  rw [← hv]
  by_cases hm : 0 = more v
  · rw [if_neg (fun h => h hm)]
    have CV : ∀ W, Calls Try.prog 42 #[.int .u64 (v : Int)] W (Ret W (.string ((⟨(c0 :: r).toArray⟩ : ByteArray).extract 0 1))) := fun W => by
      rw [he0, ← hsp.2 hm]
      exact nvar_calls v hv64 W
    by_cases hmo : most < v
    · rw [if_pos hmo]
      exact dcount_biglow _ most (r.length + 1) v c0 (toNat_ne h1) (toNat_ne h2) (toNat_ne h3) hidx hsz (by omega) HCT CVL CV hmo w
    · rw [if_neg hmo]
      have h := dcount_oklow _ most (r.length + 1) v c0 (toNat_ne h1) (toNat_ne h2) (toNat_ne h3) hidx hsz (by omega) HCT CVL _ CV hmo (ext2 c0 r 0) w
      rw [show (c0 :: r).drop ((v, 1 + 0, 0) : Nat × Nat × Nat).2.1 = r.drop 0 from by show (c0 :: r).drop (1 + 0) = _; rw [Nat.add_comm 1, List.drop_succ_cons]]
      exact h
  · rw [if_pos hm]
    exact dcount_badlow _ most (r.length + 1) v c0 (toNat_ne h1) (toNat_ne h2) (toNat_ne h3) hidx hsz (by omega) HCT CVL _ (fun W => nvar_calls v hv64 W) (by rw [he0]; simp only [ByteArray.toList_mk]; exact fun h => hm (hsp.1 h)) w
set_option maxRecDepth 100000 in
theorem dcount_calls (l : List UInt8) (e most : Nat) (hl : l.length ≤ 1000000) (w : World) :
    Calls Try.prog 24 #[.agg (inC l e).toArray, .int .u64 (most : Int)] w (Ret w (.tuple #[.agg (inC (cvL l e most) (cvE l e most)).toArray, .int .u64 (cvV l e most : Int)])) := by
  by_cases he : e = 0
  · subst he
    simp only [cvL, cvE, cvV, if_true]
    match l, hl with
    | [], _ => exact dcount_nil _ most (by rw [bstr_size]; rfl) w
    | c0 :: r, hl =>
      have hr : r.length ≤ 1000000 := by simp at hl; omega
      by_cases h1 : c0 = 253
      · subst h1; exact dcount_c253 r most hr w
      · by_cases h2 : c0 = 254
        · subst h2; exact dcount_c254 r most hr w
        · by_cases h3 : c0 = 255
          · subst h3; exact dcount_c255 r most hr w
          · exact dcount_clow c0 h1 h2 h3 r most hr w
  · simp only [cvL, cvE, cvV, if_neg he]
    exact dcount_err _ e most he w
set_option maxRecDepth 100000 in
set_option maxHeartbeats 4000000 in
theorem dwords_calls (l : List UInt8) (e : Nat) (k : Int) (most : Nat) (hk : k.toNat = most) (h63 : k ≤ 9223372036854775807) (hl : l.length ≤ 1000000) (w : World) :
    Calls Try.prog 25 #[.agg (inC l e).toArray, .int .i64 k] w (Ret w (.tuple #[.agg (inC (txL l e most) (txE l e most)).toArray, .string ⟨(txV l e most).toArray⟩])) := by
  obtain ⟨v, hv⟩ : ∃ v, v = cvV l e most := ⟨_, rfl⟩
  have hvl : v ≤ most := hv ▸ cvV_le l e most
  obtain ⟨us, hus⟩ : ∃ us : ByteArray, us = ⟨(txV l e most).toArray⟩ := ⟨_, rfl⟩
  obtain ⟨s, hs⟩ : ∃ s : ByteArray, s = ⟨l.toArray⟩ := ⟨_, rfl⟩
  obtain ⟨xe, hxe⟩ : ∃ xe, xe = txE l e most := ⟨_, rfl⟩
  obtain ⟨X, hX⟩ : ∃ X, X = inC (l) (e) := ⟨_, rfl⟩
  have IX : Hid ((Try.prog.info? 62).map (·.size) = some X.length) := Lib.hid (by rw [hX]; exact inC_size _ _)
  have LX : Hid (zerosI.length = X.length) := Lib.hid (by rw [hX]; rfl)
  have OX : Hid (∀ v ∈ X, v.oneCell' = true) := Lib.hid (by rw [hX]; exact inC_one _ _)
  obtain ⟨Y, hY⟩ : ∃ X, X = inC (cvL l e most) (cvE l e most) := ⟨_, rfl⟩
  have IY : Hid ((Try.prog.info? 62).map (·.size) = some Y.length) := Lib.hid (by rw [hY]; exact inC_size _ _)
  have LY : Hid (zerosI.length = Y.length) := Lib.hid (by rw [hY]; rfl)
  have OY : Hid (∀ v ∈ Y, v.oneCell' = true) := Lib.hid (by rw [hY]; exact inC_one _ _)
  obtain ⟨Z, hZ⟩ : ∃ X, X = inC (tkL (cvL l e most) (cvE l e most) (cvV l e most)) (txE l e most) := ⟨_, rfl⟩
  have IZ : Hid ((Try.prog.info? 62).map (·.size) = some Z.length) := Lib.hid (by rw [hZ]; exact inC_size _ _)
  have LZ : Hid (zerosI.length = Z.length) := Lib.hid (by rw [hZ]; rfl)
  have OZ : Hid (∀ v ∈ Z, v.oneCell' = true) := Lib.hid (by rw [hZ]; exact inC_one _ _)
  obtain ⟨E, hE⟩ : ∃ X, X = inC (l) (xe) := ⟨_, rfl⟩
  have IE : Hid ((Try.prog.info? 62).map (·.size) = some E.length) := Lib.hid (by rw [hE]; exact inC_size _ _)
  have LE : Hid (zerosI.length = E.length) := Lib.hid (by rw [hE]; rfl)
  have OE : Hid (∀ v ∈ E, v.oneCell' = true) := Lib.hid (by rw [hE]; exact inC_one _ _)
  have CC : Hid (∀ W, Calls Try.prog 24 #[.agg X.toArray, .int .u64 (most : Int)] W (Ret W (.tuple #[.agg Y.toArray, .int .u64 (v : Int)]))) := Lib.hid fun W => by rw [hX, hY, hv]; exact dcount_calls l e most hl W
  have CT : Hid (∀ W, Calls Try.prog 39 #[.agg Y.toArray, .int .i64 (v : Int)] W (Ret W (.tuple #[.agg Z.toArray, .string us]))) := Lib.hid fun W => by rw [hY, hZ, hus, hv]; exact dtake_in _ _ _ _ (by simp) W
  have HZ1 : Hid (∀ W g, Blk W g Z 62 → W.cell? ⟨g, 1, none⟩ = some (.int .i64 (xe : Int))) := Lib.hid fun W g h => by rw [hZ, ← hxe] at h; exact h.cell 1
  have HX0 : Hid (∀ W, Blk W w.heap.size X 62 → W.cell? ⟨w.heap.size, 0, none⟩ = some (.string s)) := Lib.hid fun W h => by rw [hX] at h; rw [hs]; exact h.cell 0
  have hE' : E = [.string s, .int .i64 (xe : Int)] := by rw [hE, hs]; rfl
  have hw1 : IntKind.u64.wrap (most : Int) = (most : Int) := by rw [IntKind.wrap_u64]; omega
  have hw2 : IntKind.i64.wrap (v : Int) = (v : Int) := by rw [IntKind.wrap_i64]; omega
  have hb0 : Blk ((w.alloc (.cells X.toArray 62)).alloc (.cells #[.string ⟨#[]⟩, .int .i64 0] 62)) w.heap.size X 62 := Blk.alloc (Blk.new w X.toArray 62) _
  have hb1 : Blk ((w.alloc (.cells X.toArray 62)).alloc (.cells #[.string ⟨#[]⟩, .int .i64 0] 62)) (w.heap.size + 1) zerosI 62 := Blk.new' _ _ _ _ (by simp)
  have HB := Lib.hid (below2 w (.cells X.toArray 62) (.cells #[.string ⟨#[]⟩, .int .i64 0] 62))
  obtain ⟨w0, hw0⟩ : ∃ w0, w0 = (w.alloc (.cells X.toArray 62)).alloc (.cells #[.string ⟨#[]⟩, .int .i64 0] 62) := ⟨_, rfl⟩
  have hXl : (inC l e) = X := hX.symm
  by_cases hx0 : xe = 0
  · have hgoal : inC (txL l e most) (txE l e most) = Z := by rw [hZ]; unfold txL; rw [if_pos (by rw [← hxe]; exact hx0)]
    rw [hXl, hgoal, ← hus]
    rw [← hw0] at hb0 hb1 HB
    subst hE'
    clear hgoal hXl hX hY hZ hus hs hxe hv hvl hE
    rw [hx0] at HZ1
    clear hx0
    by_cases hneg : k < 0
    · have hm0 : most = 0 := by omega
      subst hm0
      clear hk hw1
      go_enter Try.func25, Try.ntmps25
      go_upto_region 1 with fail
      rw [← hw0]
      clear hw0
      go_wp2_with (first
          | ((with_reducible refine at_load 62 (.tmp 2) ?_); refine wpList_load_mid rfl 62 (.tmp 2) rfl (w.heap.size) 0 rfl X _ (hb0).range Try.underlying62 rfl IX.out ?_)
          | (go_at_call 24; refine (CC.out _).mono ?_; rintro e' v1 ⟨rfl, d1⟩)
          | ((with_reducible refine at_store 62 (.tmp 6) (.tmp 17) ?_); refine wpList_store_blk rfl 62 (.tmp 6) (.tmp 17) rfl (v1.heap.size) zerosI Y 62 rfl rfl (Blk.new v1 _ _) LY.out IY.out OY.out ?_; intro x1 hbx1 hox1; have dx1 : Below w0.heap.size w0 x1 := below_only (below_al d1 _) hox1 d1.size)
          | ((with_reducible refine at_load 62 (.tmp 6) ?_); refine wpList_load_mid rfl 62 (.tmp 6) rfl (v1.heap.size) 0 rfl Y _ (hbx1).range Try.underlying62 rfl IY.out ?_)
          | (go_at_call 39; refine (CT.out _).mono ?_; rintro e' v2 ⟨rfl, d2⟩; have dv2 := below_more dx1 d2)
          | ((with_reducible refine at_store 62 (.tmp 8) (.tmp 24) ?_); refine wpList_store_blk rfl 62 (.tmp 8) (.tmp 24) rfl (v2.heap.size) zerosI Z 62 rfl rfl (Blk.new v2 _ _) LZ.out IZ.out OZ.out ?_; intro x2 hbx2 hox2; have dx2 : Below w0.heap.size w0 x2 := below_only (below_al dv2 _) hox2 dv2.size; have cz1 : x2.cell? ⟨v2.heap.size, 1, none⟩ = some (.int .i64 0) := HZ1.out _ _ hbx2; have cx0 : x2.cell? ⟨w.heap.size, 0, none⟩ = some (.string s) := HX0.out _ (hb0.up dx2); have hbz := hb1.up dx2)
          | ((with_reducible refine at_load 62 (.tmp 8) ?_); refine wpList_load_mid rfl 62 (.tmp 8) rfl (v2.heap.size) 0 rfl Z _ (hbx2).range Try.underlying62 rfl IZ.out ?_)
          | ((with_reducible refine at_store 62 (.tmp 4) (.tmp 34) ?_); refine wpList_store_blk rfl 62 (.tmp 4) (.tmp 34) rfl (w.heap.size + 1) zerosI Z 62 rfl rfl (hbz) LZ.out IZ.out OZ.out ?_; intro x3 hbx3 hox3)
          | ((with_reducible refine at_store 62 (.tmp 4) (.tmp 33) ?_); refine wpList_store_blk rfl 62 (.tmp 4) (.tmp 33) rfl (w.heap.size + 1) zerosI [.string s, .int .i64 (xe : Int)] 62 rfl rfl (hbz) LE.out IE.out OE.out ?_; intro x3 hbx3 hox3))
      refine bodyPost_ret (v := .tuple #[.agg Z.toArray, .string us]) ?_ rfl ⟨rfl, below_only (below_more HB.out dx2) hox3 (by omega)⟩
      exact results_in Try.results25 _ _ (w.heap.size + 1) 62 _ (0, 0) _ _ (by rfl) (by rfl) hbx3 Try.underlying62 rfl IZ.out
    · have hkm : k = (most : Int) := by omega
      subst hkm
      clear hk
      go_enter Try.func25, Try.ntmps25
      go_upto_region 1 with fail
      rw [← hw0]
      clear hw0
      go_wp2_with (first
          | ((with_reducible refine at_load 62 (.tmp 2) ?_); refine wpList_load_mid rfl 62 (.tmp 2) rfl (w.heap.size) 0 rfl X _ (hb0).range Try.underlying62 rfl IX.out ?_)
          | (go_at_call 24; refine (CC.out _).mono ?_; rintro e' v1 ⟨rfl, d1⟩)
          | ((with_reducible refine at_store 62 (.tmp 6) (.tmp 17) ?_); refine wpList_store_blk rfl 62 (.tmp 6) (.tmp 17) rfl (v1.heap.size) zerosI Y 62 rfl rfl (Blk.new v1 _ _) LY.out IY.out OY.out ?_; intro x1 hbx1 hox1; have dx1 : Below w0.heap.size w0 x1 := below_only (below_al d1 _) hox1 d1.size)
          | ((with_reducible refine at_load 62 (.tmp 6) ?_); refine wpList_load_mid rfl 62 (.tmp 6) rfl (v1.heap.size) 0 rfl Y _ (hbx1).range Try.underlying62 rfl IY.out ?_)
          | (go_at_call 39; refine (CT.out _).mono ?_; rintro e' v2 ⟨rfl, d2⟩; have dv2 := below_more dx1 d2)
          | ((with_reducible refine at_store 62 (.tmp 8) (.tmp 24) ?_); refine wpList_store_blk rfl 62 (.tmp 8) (.tmp 24) rfl (v2.heap.size) zerosI Z 62 rfl rfl (Blk.new v2 _ _) LZ.out IZ.out OZ.out ?_; intro x2 hbx2 hox2; have dx2 : Below w0.heap.size w0 x2 := below_only (below_al dv2 _) hox2 dv2.size; have cz1 : x2.cell? ⟨v2.heap.size, 1, none⟩ = some (.int .i64 0) := HZ1.out _ _ hbx2; have cx0 : x2.cell? ⟨w.heap.size, 0, none⟩ = some (.string s) := HX0.out _ (hb0.up dx2); have hbz := hb1.up dx2)
          | ((with_reducible refine at_load 62 (.tmp 8) ?_); refine wpList_load_mid rfl 62 (.tmp 8) rfl (v2.heap.size) 0 rfl Z _ (hbx2).range Try.underlying62 rfl IZ.out ?_)
          | ((with_reducible refine at_store 62 (.tmp 4) (.tmp 34) ?_); refine wpList_store_blk rfl 62 (.tmp 4) (.tmp 34) rfl (w.heap.size + 1) zerosI Z 62 rfl rfl (hbz) LZ.out IZ.out OZ.out ?_; intro x3 hbx3 hox3)
          | ((with_reducible refine at_store 62 (.tmp 4) (.tmp 33) ?_); refine wpList_store_blk rfl 62 (.tmp 4) (.tmp 33) rfl (w.heap.size + 1) zerosI [.string s, .int .i64 (xe : Int)] 62 rfl rfl (hbz) LE.out IE.out OE.out ?_; intro x3 hbx3 hox3))
      refine bodyPost_ret (v := .tuple #[.agg Z.toArray, .string us]) ?_ rfl ⟨rfl, below_only (below_more HB.out dx2) hox3 (by omega)⟩
      exact results_in Try.results25 _ _ (w.heap.size + 1) 62 _ (0, 0) _ _ (by rfl) (by rfl) hbx3 Try.underlying62 rfl IZ.out
  · have hnil : txV l e most = [] := by
      have h : txE l e most ≠ 0 := by rw [← hxe]; exact hx0
      unfold txE at h
      unfold txV
      unfold tkE at h
      unfold tkV
      split at h
      · split at h
        · exact absurd rfl h
        · rw [if_neg (fun hh => by omega)]
      · rw [if_neg (fun hh => by omega)]
    have hgoal : inC (txL l e most) (txE l e most) = E := by rw [hE]; unfold txL; rw [if_neg (by rw [← hxe]; exact hx0), ← hxe]
    rw [hXl, hgoal, hnil]
    rw [← hw0] at hb0 hb1 HB
    subst hE'
    clear hgoal hXl hX hY hZ hus hs hxe hv hvl hE hnil
    by_cases hneg : k < 0
    · have hm0 : most = 0 := by omega
      subst hm0
      clear hk hw1
      go_enter Try.func25, Try.ntmps25
      go_upto_region 1 with fail
      rw [← hw0]
      clear hw0
      go_wp2_with (first
          | ((with_reducible refine at_load 62 (.tmp 2) ?_); refine wpList_load_mid rfl 62 (.tmp 2) rfl (w.heap.size) 0 rfl X _ (hb0).range Try.underlying62 rfl IX.out ?_)
          | (go_at_call 24; refine (CC.out _).mono ?_; rintro e' v1 ⟨rfl, d1⟩)
          | ((with_reducible refine at_store 62 (.tmp 6) (.tmp 17) ?_); refine wpList_store_blk rfl 62 (.tmp 6) (.tmp 17) rfl (v1.heap.size) zerosI Y 62 rfl rfl (Blk.new v1 _ _) LY.out IY.out OY.out ?_; intro x1 hbx1 hox1; have dx1 : Below w0.heap.size w0 x1 := below_only (below_al d1 _) hox1 d1.size)
          | ((with_reducible refine at_load 62 (.tmp 6) ?_); refine wpList_load_mid rfl 62 (.tmp 6) rfl (v1.heap.size) 0 rfl Y _ (hbx1).range Try.underlying62 rfl IY.out ?_)
          | (go_at_call 39; refine (CT.out _).mono ?_; rintro e' v2 ⟨rfl, d2⟩; have dv2 := below_more dx1 d2)
          | ((with_reducible refine at_store 62 (.tmp 8) (.tmp 24) ?_); refine wpList_store_blk rfl 62 (.tmp 8) (.tmp 24) rfl (v2.heap.size) zerosI Z 62 rfl rfl (Blk.new v2 _ _) LZ.out IZ.out OZ.out ?_; intro x2 hbx2 hox2; have dx2 : Below w0.heap.size w0 x2 := below_only (below_al dv2 _) hox2 dv2.size; have cz1 : x2.cell? ⟨v2.heap.size, 1, none⟩ = some (.int .i64 (xe : Int)) := HZ1.out _ _ hbx2; have cx0 : x2.cell? ⟨w.heap.size, 0, none⟩ = some (.string s) := HX0.out _ (hb0.up dx2); have hbz := hb1.up dx2)
          | ((with_reducible refine at_load 62 (.tmp 8) ?_); refine wpList_load_mid rfl 62 (.tmp 8) rfl (v2.heap.size) 0 rfl Z _ (hbx2).range Try.underlying62 rfl IZ.out ?_)
          | ((with_reducible refine at_store 62 (.tmp 4) (.tmp 34) ?_); refine wpList_store_blk rfl 62 (.tmp 4) (.tmp 34) rfl (w.heap.size + 1) zerosI Z 62 rfl rfl (hbz) LZ.out IZ.out OZ.out ?_; intro x3 hbx3 hox3)
          | ((with_reducible refine at_store 62 (.tmp 4) (.tmp 33) ?_); refine wpList_store_blk rfl 62 (.tmp 4) (.tmp 33) rfl (w.heap.size + 1) zerosI [.string s, .int .i64 (xe : Int)] 62 rfl rfl (hbz) rfl (inC_size [] 0) OE.out ?_; intro x3 hbx3 hox3))
      refine bodyPost_ret (v := .tuple #[.agg ([.string s, .int .i64 (xe : Int)] : List Value).toArray, .string ⟨#[]⟩]) ?_ rfl ⟨rfl, below_only (below_more HB.out dx2) hox3 (by omega)⟩
      exact results_in Try.results25 _ _ (w.heap.size + 1) 62 _ (0, 0) _ _ (by rfl) (by rfl) hbx3 Try.underlying62 rfl IE.out
    · have hkm : k = (most : Int) := by omega
      subst hkm
      clear hk
      go_enter Try.func25, Try.ntmps25
      go_upto_region 1 with fail
      rw [← hw0]
      clear hw0
      go_wp2_with (first
          | ((with_reducible refine at_load 62 (.tmp 2) ?_); refine wpList_load_mid rfl 62 (.tmp 2) rfl (w.heap.size) 0 rfl X _ (hb0).range Try.underlying62 rfl IX.out ?_)
          | (go_at_call 24; refine (CC.out _).mono ?_; rintro e' v1 ⟨rfl, d1⟩)
          | ((with_reducible refine at_store 62 (.tmp 6) (.tmp 17) ?_); refine wpList_store_blk rfl 62 (.tmp 6) (.tmp 17) rfl (v1.heap.size) zerosI Y 62 rfl rfl (Blk.new v1 _ _) LY.out IY.out OY.out ?_; intro x1 hbx1 hox1; have dx1 : Below w0.heap.size w0 x1 := below_only (below_al d1 _) hox1 d1.size)
          | ((with_reducible refine at_load 62 (.tmp 6) ?_); refine wpList_load_mid rfl 62 (.tmp 6) rfl (v1.heap.size) 0 rfl Y _ (hbx1).range Try.underlying62 rfl IY.out ?_)
          | (go_at_call 39; refine (CT.out _).mono ?_; rintro e' v2 ⟨rfl, d2⟩; have dv2 := below_more dx1 d2)
          | ((with_reducible refine at_store 62 (.tmp 8) (.tmp 24) ?_); refine wpList_store_blk rfl 62 (.tmp 8) (.tmp 24) rfl (v2.heap.size) zerosI Z 62 rfl rfl (Blk.new v2 _ _) LZ.out IZ.out OZ.out ?_; intro x2 hbx2 hox2; have dx2 : Below w0.heap.size w0 x2 := below_only (below_al dv2 _) hox2 dv2.size; have cz1 : x2.cell? ⟨v2.heap.size, 1, none⟩ = some (.int .i64 (xe : Int)) := HZ1.out _ _ hbx2; have cx0 : x2.cell? ⟨w.heap.size, 0, none⟩ = some (.string s) := HX0.out _ (hb0.up dx2); have hbz := hb1.up dx2)
          | ((with_reducible refine at_load 62 (.tmp 8) ?_); refine wpList_load_mid rfl 62 (.tmp 8) rfl (v2.heap.size) 0 rfl Z _ (hbx2).range Try.underlying62 rfl IZ.out ?_)
          | ((with_reducible refine at_store 62 (.tmp 4) (.tmp 34) ?_); refine wpList_store_blk rfl 62 (.tmp 4) (.tmp 34) rfl (w.heap.size + 1) zerosI Z 62 rfl rfl (hbz) LZ.out IZ.out OZ.out ?_; intro x3 hbx3 hox3)
          | ((with_reducible refine at_store 62 (.tmp 4) (.tmp 33) ?_); refine wpList_store_blk rfl 62 (.tmp 4) (.tmp 33) rfl (w.heap.size + 1) zerosI [.string s, .int .i64 (xe : Int)] 62 rfl rfl (hbz) LE.out IE.out OE.out ?_; intro x3 hbx3 hox3))
      refine bodyPost_ret (v := .tuple #[.agg ([.string s, .int .i64 (xe : Int)] : List Value).toArray, .string ⟨#[]⟩]) ?_ rfl ⟨rfl, below_only (below_more HB.out dx2) hox3 (by omega)⟩
      exact results_in Try.results25 _ _ (w.heap.size + 1) 62 _ (0, 0) _ _ (by rfl) (by rfl) hbx3 Try.underlying62 rfl IE.out
end Go.Proofs.Ythkkllcpogagiaa
