/- Merged texts: CodD Fil Stp. -/
import Derived.Test.YtplnmjdafchjbaaMal
import Derived.Test.YtplnmjdafchjbaaMab
import Derived.Laws.Tables
import Derived.Test.YtplnmjdafchjbaaMah
/- The contracts of the document's own Count and Words of layer 6. -/
namespace Go.Proofs.Ytplnmjdafchjbaa
open Go.RowKit
set_option linter.unusedVariables false

set_option maxRecDepth 100000 in
theorem idx_str (c0 : UInt8) (r : List UInt8) (W : World) : (Instr.index 9 (.string ⟨(c0 :: r).toArray⟩) (.int .i64 0)).run Try.prog W = .ok (.int .u8 (c0.toNat : Int)) W := by
  simp [Instr.index, run_underlying Try.underlying9, asIntOf, go_sem]
  try rfl
set_option maxRecDepth 100000 in
theorem ext0 (c0 : UInt8) (r : List UInt8) (m : Nat) : (⟨(c0 :: r).toArray⟩ : ByteArray).extract 0 (1 + m) = ⟨(c0 :: r.take m).toArray⟩ := by
  rw [ByteArray.extract_mk, List.drop_zero, Nat.sub_zero, Nat.add_comm 1, List.take_succ_cons]
set_option maxRecDepth 100000 in
theorem ext1 (c0 : UInt8) (r : List UInt8) (m : Nat) : (⟨(c0 :: r).toArray⟩ : ByteArray).extract 1 (1 + m) = ⟨(r.take m).toArray⟩ := by
  rw [ByteArray.extract_mk, List.drop_succ_cons, List.drop_zero, Nat.add_sub_cancel_left]
set_option maxRecDepth 100000 in
theorem ext2 (c0 : UInt8) (r : List UInt8) (m : Nat) : (⟨(c0 :: r).toArray⟩ : ByteArray).extract (1 + m) (r.length + 1) = ⟨(r.drop m).toArray⟩ := by
  rw [bstr_from _ _ _ (by simp), Nat.add_comm 1, List.drop_succ_cons]
set_option maxRecDepth 100000 in
theorem first_cons (c : UInt8) (r : List UInt8) (most : Nat) : first (c :: r) most = if r.length < foll c then (0, 0, 2) else if foll c ≠ more (cval c r) then (0, 0, 3) else if most < cval c r then (0, 0, 4) else (cval c r, 1 + foll c, 0) := rfl
set_option maxRecDepth 100000 in
theorem dcount_c253 (r : List UInt8) (most : Nat) (hl : r.length ≤ 1000000) (w : World) :
    Calls Try.prog 39 #[.agg (inC ((253 : UInt8) :: r) 0).toArray, .int .u64 (most : Int)] w (Ret w (.tuple #[.agg (inC (((253 : UInt8) :: r).drop (first ((253 : UInt8) :: r) most).2.1) (first ((253 : UInt8) :: r) most).2.2).toArray, .int .u64 ((first ((253 : UInt8) :: r) most).1 : Int)])) := by
  have hf : foll (253 : UInt8) = 2 := rfl
  have hidx := idx_str (253 : UInt8) r
  have hsz : (⟨((253 : UInt8) :: r).toArray⟩ : ByteArray).size = r.length + 1 := by rw [bstr_size]; simp
  rw [first_cons, hf]
  by_cases hs : r.length < 2
  · rw [if_pos hs]
    exact dcount_short253 _ most (r.length + 1) 253 rfl hidx hsz (by omega) (by omega) w
  rw [if_neg hs]
  obtain ⟨v, hv⟩ : ∃ v, v = cval (253 : UInt8) r := ⟨_, rfl⟩
  have hv64 : v < 18446744073709551616 := hv ▸ cval_lt (253 : UInt8) r
  have hul : (r.take 2).length = 2 := by rw [List.length_take]; omega
  have hvu : numL ((r.take 2).take 8) = v := by
    rw [List.take_of_length_le (by omega), hv]
    rw [cval_pos (by rw [hf]; omega), hf]
  have HCT : ∀ W, ∃ A cc w', (convert 9 27 (.string ((⟨((253 : UInt8) :: r).toArray⟩ : ByteArray).extract 1 3))).run Try.prog W = .ok (.slice A 2 cc) w' ∧ Rd w' A 2 (r.take 2) ∧ Below W.heap.size W w' := fun W => by
    rw [show (⟨((253 : UInt8) :: r).toArray⟩ : ByteArray).extract 1 3 = ⟨(r.take 2).toArray⟩ from ext1 (253 : UInt8) r 2]
    have h := conv_text W (r.take 2) (by omega)
    rw [hul] at h
    exact h
  have CVL : ∀ W A cc, Rd W A 2 (r.take 2) → Calls Try.prog 65 #[.slice A 2 cc] W fun e w' => e = .returned (.int .u64 (v : Int)) ∧ W = w' := fun W A cc h => by
    have hc := value_calls A 2 cc (r.take 2) W (by omega) h
    rw [hvu] at hc
    exact hc
  have hlr : foll (253 : UInt8) ≤ r.length := by rw [hf]; omega
  have hsp := spell_iff hlr
  rw [hf, ← hv] at hsp
  have he0 : (⟨((253 : UInt8) :: r).toArray⟩ : ByteArray).extract 0 3 = ⟨((253 : UInt8) :: r.take 2).toArray⟩ := ext0 (253 : UInt8) r 2
  rw [← hv]
  by_cases hm : 2 = more v
  · rw [if_neg (fun h => h hm)]
    have CV : ∀ W, Calls Try.prog 30 #[.int .u64 (v : Int)] W (Ret W (.string ((⟨((253 : UInt8) :: r).toArray⟩ : ByteArray).extract 0 3))) := fun W => by
      rw [he0, ← hsp.2 hm]
      exact nvar_calls v hv64 W
    by_cases hmo : most < v
    · rw [if_pos hmo]
      exact dcount_big253 _ most (r.length + 1) v 253 rfl hidx hsz (by omega) HCT CVL CV hmo w
    · rw [if_neg hmo]
      have h := dcount_ok253 _ most (r.length + 1) v 253 rfl hidx hsz (by omega) HCT CVL _ CV hmo (ext2 (253 : UInt8) r 2) w
      rw [show ((253 : UInt8) :: r).drop ((v, 1 + 2, 0) : Nat × Nat × Nat).2.1 = r.drop 2 from by show ((253 : UInt8) :: r).drop (1 + 2) = _; rw [Nat.add_comm 1, List.drop_succ_cons]]
      exact h
  · rw [if_pos hm]
    exact dcount_bad253 _ most (r.length + 1) v 253 rfl hidx hsz (by omega) HCT CVL _ (fun W => nvar_calls v hv64 W) (by rw [he0]; simp only [ByteArray.toList_mk]; exact fun h => hm (hsp.1 h)) w
set_option maxRecDepth 100000 in
theorem dcount_c254 (r : List UInt8) (most : Nat) (hl : r.length ≤ 1000000) (w : World) :
    Calls Try.prog 39 #[.agg (inC ((254 : UInt8) :: r) 0).toArray, .int .u64 (most : Int)] w (Ret w (.tuple #[.agg (inC (((254 : UInt8) :: r).drop (first ((254 : UInt8) :: r) most).2.1) (first ((254 : UInt8) :: r) most).2.2).toArray, .int .u64 ((first ((254 : UInt8) :: r) most).1 : Int)])) := by
  have hf : foll (254 : UInt8) = 4 := rfl
  have hidx := idx_str (254 : UInt8) r
  have hsz : (⟨((254 : UInt8) :: r).toArray⟩ : ByteArray).size = r.length + 1 := by rw [bstr_size]; simp
  rw [first_cons, hf]
  by_cases hs : r.length < 4
  · rw [if_pos hs]
    exact dcount_short254 _ most (r.length + 1) 254 rfl hidx hsz (by omega) (by omega) w
  rw [if_neg hs]
  obtain ⟨v, hv⟩ : ∃ v, v = cval (254 : UInt8) r := ⟨_, rfl⟩
  have hv64 : v < 18446744073709551616 := hv ▸ cval_lt (254 : UInt8) r
  have hul : (r.take 4).length = 4 := by rw [List.length_take]; omega
  have hvu : numL ((r.take 4).take 8) = v := by
    rw [List.take_of_length_le (by omega), hv]
    rw [cval_pos (by rw [hf]; omega), hf]
  have HCT : ∀ W, ∃ A cc w', (convert 9 27 (.string ((⟨((254 : UInt8) :: r).toArray⟩ : ByteArray).extract 1 5))).run Try.prog W = .ok (.slice A 4 cc) w' ∧ Rd w' A 4 (r.take 4) ∧ Below W.heap.size W w' := fun W => by
    rw [show (⟨((254 : UInt8) :: r).toArray⟩ : ByteArray).extract 1 5 = ⟨(r.take 4).toArray⟩ from ext1 (254 : UInt8) r 4]
    have h := conv_text W (r.take 4) (by omega)
    rw [hul] at h
    exact h
  have CVL : ∀ W A cc, Rd W A 4 (r.take 4) → Calls Try.prog 65 #[.slice A 4 cc] W fun e w' => e = .returned (.int .u64 (v : Int)) ∧ W = w' := fun W A cc h => by
    have hc := value_calls A 4 cc (r.take 4) W (by omega) h
    rw [hvu] at hc
    exact hc
  have hlr : foll (254 : UInt8) ≤ r.length := by rw [hf]; omega
  have hsp := spell_iff hlr
  rw [hf, ← hv] at hsp
  have he0 : (⟨((254 : UInt8) :: r).toArray⟩ : ByteArray).extract 0 5 = ⟨((254 : UInt8) :: r.take 4).toArray⟩ := ext0 (254 : UInt8) r 4
  rw [← hv]
  by_cases hm : 4 = more v
  · rw [if_neg (fun h => h hm)]
    have CV : ∀ W, Calls Try.prog 30 #[.int .u64 (v : Int)] W (Ret W (.string ((⟨((254 : UInt8) :: r).toArray⟩ : ByteArray).extract 0 5))) := fun W => by
      rw [he0, ← hsp.2 hm]
      exact nvar_calls v hv64 W
    by_cases hmo : most < v
    · rw [if_pos hmo]
      exact dcount_big254 _ most (r.length + 1) v 254 rfl hidx hsz (by omega) HCT CVL CV hmo w
    · rw [if_neg hmo]
      have h := dcount_ok254 _ most (r.length + 1) v 254 rfl hidx hsz (by omega) HCT CVL _ CV hmo (ext2 (254 : UInt8) r 4) w
      rw [show ((254 : UInt8) :: r).drop ((v, 1 + 4, 0) : Nat × Nat × Nat).2.1 = r.drop 4 from by show ((254 : UInt8) :: r).drop (1 + 4) = _; rw [Nat.add_comm 1, List.drop_succ_cons]]
      exact h
  · rw [if_pos hm]
    exact dcount_bad254 _ most (r.length + 1) v 254 rfl hidx hsz (by omega) HCT CVL _ (fun W => nvar_calls v hv64 W) (by rw [he0]; simp only [ByteArray.toList_mk]; exact fun h => hm (hsp.1 h)) w
set_option maxRecDepth 100000 in
theorem dcount_c255 (r : List UInt8) (most : Nat) (hl : r.length ≤ 1000000) (w : World) :
    Calls Try.prog 39 #[.agg (inC ((255 : UInt8) :: r) 0).toArray, .int .u64 (most : Int)] w (Ret w (.tuple #[.agg (inC (((255 : UInt8) :: r).drop (first ((255 : UInt8) :: r) most).2.1) (first ((255 : UInt8) :: r) most).2.2).toArray, .int .u64 ((first ((255 : UInt8) :: r) most).1 : Int)])) := by
  have hf : foll (255 : UInt8) = 8 := rfl
  have hidx := idx_str (255 : UInt8) r
  have hsz : (⟨((255 : UInt8) :: r).toArray⟩ : ByteArray).size = r.length + 1 := by rw [bstr_size]; simp
  rw [first_cons, hf]
  by_cases hs : r.length < 8
  · rw [if_pos hs]
    exact dcount_short255 _ most (r.length + 1) 255 rfl hidx hsz (by omega) (by omega) w
  rw [if_neg hs]
  obtain ⟨v, hv⟩ : ∃ v, v = cval (255 : UInt8) r := ⟨_, rfl⟩
  have hv64 : v < 18446744073709551616 := hv ▸ cval_lt (255 : UInt8) r
  have hul : (r.take 8).length = 8 := by rw [List.length_take]; omega
  have hvu : numL ((r.take 8).take 8) = v := by
    rw [List.take_of_length_le (by omega), hv]
    rw [cval_pos (by rw [hf]; omega), hf]
  have HCT : ∀ W, ∃ A cc w', (convert 9 27 (.string ((⟨((255 : UInt8) :: r).toArray⟩ : ByteArray).extract 1 9))).run Try.prog W = .ok (.slice A 8 cc) w' ∧ Rd w' A 8 (r.take 8) ∧ Below W.heap.size W w' := fun W => by
    rw [show (⟨((255 : UInt8) :: r).toArray⟩ : ByteArray).extract 1 9 = ⟨(r.take 8).toArray⟩ from ext1 (255 : UInt8) r 8]
    have h := conv_text W (r.take 8) (by omega)
    rw [hul] at h
    exact h
  have CVL : ∀ W A cc, Rd W A 8 (r.take 8) → Calls Try.prog 65 #[.slice A 8 cc] W fun e w' => e = .returned (.int .u64 (v : Int)) ∧ W = w' := fun W A cc h => by
    have hc := value_calls A 8 cc (r.take 8) W (by omega) h
    rw [hvu] at hc
    exact hc
  have hlr : foll (255 : UInt8) ≤ r.length := by rw [hf]; omega
  have hsp := spell_iff hlr
  rw [hf, ← hv] at hsp
  have he0 : (⟨((255 : UInt8) :: r).toArray⟩ : ByteArray).extract 0 9 = ⟨((255 : UInt8) :: r.take 8).toArray⟩ := ext0 (255 : UInt8) r 8
  rw [← hv]
  by_cases hm : 8 = more v
  · rw [if_neg (fun h => h hm)]
    have CV : ∀ W, Calls Try.prog 30 #[.int .u64 (v : Int)] W (Ret W (.string ((⟨((255 : UInt8) :: r).toArray⟩ : ByteArray).extract 0 9))) := fun W => by
      rw [he0, ← hsp.2 hm]
      exact nvar_calls v hv64 W
    by_cases hmo : most < v
    · rw [if_pos hmo]
      exact dcount_big255 _ most (r.length + 1) v 255 rfl hidx hsz (by omega) HCT CVL CV hmo w
    · rw [if_neg hmo]
      have h := dcount_ok255 _ most (r.length + 1) v 255 rfl hidx hsz (by omega) HCT CVL _ CV hmo (ext2 (255 : UInt8) r 8) w
      rw [show ((255 : UInt8) :: r).drop ((v, 1 + 8, 0) : Nat × Nat × Nat).2.1 = r.drop 8 from by show ((255 : UInt8) :: r).drop (1 + 8) = _; rw [Nat.add_comm 1, List.drop_succ_cons]]
      exact h
  · rw [if_pos hm]
    exact dcount_bad255 _ most (r.length + 1) v 255 rfl hidx hsz (by omega) HCT CVL _ (fun W => nvar_calls v hv64 W) (by rw [he0]; simp only [ByteArray.toList_mk]; exact fun h => hm (hsp.1 h)) w
set_option maxRecDepth 100000 in
theorem dcount_clow (c0 : UInt8) (h1 : c0 ≠ 253) (h2 : c0 ≠ 254) (h3 : c0 ≠ 255) (r : List UInt8) (most : Nat) (hl : r.length ≤ 1000000) (w : World) :
    Calls Try.prog 39 #[.agg (inC (c0 :: r) 0).toArray, .int .u64 (most : Int)] w (Ret w (.tuple #[.agg (inC ((c0 :: r).drop (first (c0 :: r) most).2.1) (first (c0 :: r) most).2.2).toArray, .int .u64 ((first (c0 :: r) most).1 : Int)])) := by
  have hf : foll c0 = 0 := by simp [foll, h1, h2, h3]
  have hidx := idx_str c0 r
  have hsz : (⟨(c0 :: r).toArray⟩ : ByteArray).size = r.length + 1 := by rw [bstr_size]; simp
  rw [first_cons, hf]
  rw [if_neg (Nat.not_lt_zero _)]
  obtain ⟨v, hv⟩ : ∃ v, v = cval c0 r := ⟨_, rfl⟩
  have hv64 : v < 18446744073709551616 := hv ▸ cval_lt c0 r
  have hul : [c0].length = 1 := by rfl
  have hvu : numL ([c0].take 8) = v := by
    rw [List.take_of_length_le (by omega), hv]
    rw [cval_zero hf]; simp [numL]
  have HCT : ∀ W, ∃ A cc w', (convert 9 27 (.string ((⟨(c0 :: r).toArray⟩ : ByteArray).extract 0 1))).run Try.prog W = .ok (.slice A 1 cc) w' ∧ Rd w' A 1 [c0] ∧ Below W.heap.size W w' := fun W => by
    rw [show (⟨(c0 :: r).toArray⟩ : ByteArray).extract 0 1 = ⟨[c0].toArray⟩ from ext0 c0 r 0]
    have h := conv_text W [c0] (by omega)
    rw [hul] at h
    exact h
  have CVL : ∀ W A cc, Rd W A 1 [c0] → Calls Try.prog 65 #[.slice A 1 cc] W fun e w' => e = .returned (.int .u64 (v : Int)) ∧ W = w' := fun W A cc h => by
    have hc := value_calls A 1 cc [c0] W (by omega) h
    rw [hvu] at hc
    exact hc
  have hlr : foll c0 ≤ r.length := by rw [hf]; omega
  have hsp := spell_iff hlr
  rw [hf, ← hv] at hsp
  have he0 : (⟨(c0 :: r).toArray⟩ : ByteArray).extract 0 1 = ⟨(c0 :: r.take 0).toArray⟩ := ext0 c0 r 0
  rw [← hv]
  by_cases hm : 0 = more v
  · rw [if_neg (fun h => h hm)]
    have CV : ∀ W, Calls Try.prog 30 #[.int .u64 (v : Int)] W (Ret W (.string ((⟨(c0 :: r).toArray⟩ : ByteArray).extract 0 1))) := fun W => by
      rw [he0, ← hsp.2 hm]
      exact nvar_calls v hv64 W
    by_cases hmo : most < v
    · rw [if_pos hmo]
      exact dcount_biglow _ most (r.length + 1) v c0 (toNat_ne h1) (toNat_ne h2) (toNat_ne h3) hidx hsz (by omega) HCT CVL CV hmo w
    · rw [if_neg hmo]
      have h := dcount_oklow _ most (r.length + 1) v c0 (toNat_ne h1) (toNat_ne h2) (toNat_ne h3) hidx hsz (by omega) HCT CVL _ CV hmo (ext2 c0 r 0) w
      rw [show (c0 :: r).drop ((v, 1 + 0, 0) : Nat × Nat × Nat).2.1 = r.drop 0 from by show (c0 :: r).drop (1 + 0) = _; rw [Nat.add_comm 1, List.drop_succ_cons]]
      exact h
  · rw [if_pos hm]
    exact dcount_badlow _ most (r.length + 1) v c0 (toNat_ne h1) (toNat_ne h2) (toNat_ne h3) hidx hsz (by omega) HCT CVL _ (fun W => nvar_calls v hv64 W) (by rw [he0]; simp only [ByteArray.toList_mk]; exact fun h => hm (hsp.1 h)) w
set_option maxRecDepth 100000 in
theorem dcount_calls (l : List UInt8) (e most : Nat) (hl : l.length ≤ 1000000) (w : World) :
    Calls Try.prog 39 #[.agg (inC l e).toArray, .int .u64 (most : Int)] w (Ret w (.tuple #[.agg (inC (cvL l e most) (cvE l e most)).toArray, .int .u64 (cvV l e most : Int)])) := by
  by_cases he : e = 0
  · subst he
    simp only [cvL, cvE, cvV, if_true]
    match l, hl with
    | [], _ => exact dcount_nil _ most (by rw [bstr_size]; rfl) w
    | c0 :: r, hl =>
      have hr : r.length ≤ 1000000 := by simp at hl; omega
      by_cases h1 : c0 = 253
      · subst h1; exact dcount_c253 r most hr w
      · by_cases h2 : c0 = 254
        · subst h2; exact dcount_c254 r most hr w
        · by_cases h3 : c0 = 255
          · subst h3; exact dcount_c255 r most hr w
          · exact dcount_clow c0 h1 h2 h3 r most hr w
  · simp only [cvL, cvE, cvV, if_neg he]
    exact dcount_err _ e most he w
end Go.Proofs.Ytplnmjdafchjbaa

/- Structs, arrays and slices that are built part by part. -/
namespace Go.Proofs.Ytplnmjdafchjbaa
open Go.RowKit
set_option linter.unusedVariables false
set_option linter.unusedSimpArgs false

set_option maxRecDepth 100000 in
theorem fold_over : ∀ (V : List Value) (L : List Value) (o k : Nat), o + k + V.length ≤ L.length → (V.zipIdx k).foldl (fun (cs : Array Value) (x : Value × Nat) => cs.setIfInBounds (o + x.2) x.1) L.toArray = (over L (o + k) V).toArray
  | [], L, o, k, _ => by simp [over]
  | v :: V, L, o, k, h => by
    rw [List.zipIdx_cons, List.foldl_cons]
    simp only [List.length_cons] at h
    rw [List.setIfInBounds_toArray, fold_over V (L.set (o + k) v) o (k + 1) (by rw [List.length_set]; omega), show o + (k + 1) = o + k + 1 from rfl, set_over v V L (o + k) (by simp; omega)]
set_option maxRecDepth 100000 in
theorem fill_step (place : Nat → Option (Nat × Nat)) (L V : List Value) (i o : Nat) (v : Value) (rest : List (Nat × Value)) (hp : place i = some (o, V.length)) (hv : v.cells = V.toArray) (h : o + V.length ≤ L.length) :
    Instr.fill place L.toArray ((i, v) :: rest) = Instr.fill place (over L o V).toArray rest := by
  have hf := fold_over V L o 0 (by omega)
  rw [Instr.fill]
  simp only [hp, hv, List.size_toArray]
  rw [if_neg (by simp; omega)]
  congr 1
  rw [Nat.add_zero] at hf
  rw [← hf]
  simp
set_option maxRecDepth 100000 in
theorem over_one (L : List Value) (o : Nat) (v : Value) (h : o < L.length) : over L o [v] = L.set o v := by
  unfold over
  rw [List.set_eq_take_append_cons_drop, if_pos h]
  simp
set_option maxRecDepth 100000 in
/-- A struct or an array that is built: its parts' values, and what they make. -/
theorem wp_bld {P : Program} {o : Oper} {a : Act} {w : World} {K : Act → World → Prop} {Q : Exit → Act → World → Prop} (t : TypeId) (parts : Array (Nat × Operand)) (ho : o.op = .build t parts) (vals : Array (Nat × Value)) (x : Value)
    (hv : (parts.map fun (i, x) => (i, a.eval x)) = vals) (hr : ∀ W, (Instr.build t vals).run P W = .ok x W) (h : K (a.put o.dst x) w) : o.wp P a w K Q := by
  unfold Oper.wp execOp
  simp only [ho, hv, Sem.run_bind, hr w, Result.andThen_ok]
  exact h
set_option maxRecDepth 100000 in
theorem at_bld {P : Program} {ops : Array Oper} {rest : List Oper} {Q : Exit → Act → World → Prop} {a : Act} {w : World} {dst : Option Tmp} {t : TypeId} {p : String} {af : Array Edge} (ty : TypeId) {parts : Array (Nat × Operand)}
    (h : wpList P ops Q ({ dst := dst, op := .build ty parts, type := t, pos := p, after := af, guard := none } :: rest) a w) : wpList P ops Q ({ dst := dst, op := .build ty parts, type := t, pos := p, after := af, guard := none } :: rest) a w := h
set_option maxRecDepth 100000 in
theorem wpList_bld {P : Program} {ops : Array Oper} {rest : List Oper} {op : Oper} {a : Act} {w : World} {Q : Exit → Act → World → Prop} (hgd : op.guard = none) (t : TypeId) (parts : Array (Nat × Operand)) (ho : op.op = .build t parts) (vals : Array (Nat × Value)) (x : Value)
    (hv : (parts.map fun (i, x) => (i, a.eval x)) = vals) (hr : ∀ W, (Instr.build t vals).run P W = .ok x W) (h : wpList P ops Q rest (a.put op.dst x) w) : wpList P ops Q (op :: rest) a w :=
  wpList_plain hgd fun _ hK => wp_bld t parts ho vals x hv hr (hK _ _ h)
end Go.Proofs.Ytplnmjdafchjbaa

/- Steps that name the world behind: a new variable of an array or a struct, in plain and in drawn regions. -/
namespace Go.Proofs.Ytplnmjdafchjbaa
open Go.RowKit
set_option linter.unusedVariables false

set_option maxRecDepth 100000 in
theorem run_allocT {P : Program} (T : TypeId) (Z : List Value) (hz : (P.info? T).map (·.zero) = some (some (.agg Z.toArray))) (W : World) : (Instr.alloc T true (.tuple #[])).run P W = .ok (.pointer (some ⟨W.heap.size, 0, none⟩)) (W.alloc (.cells Z.toArray T)) := by
  obtain ⟨i, hi, hzz⟩ := Option.map_eq_some_iff.1 hz
  simp [Instr.alloc, zeroValue, typeInfo, hi, hzz, newVar, newRow, Value.cells]
set_option maxRecDepth 100000 in
/-- A new variable. -/
theorem wp_allocT {P : Program} {o : Oper} {a : Act} {W : World} {K : Act → World → Prop} {Q : Exit → Act → World → Prop} (T : TypeId) (Z : List Value) (hz : (P.info? T).map (·.zero) = some (some (.agg Z.toArray))) (ho : o.op = .alloc T) (base : Nat) (w : World) (hb : Below base w W) (hbase : base ≤ w.heap.size)
    (h : ∀ g w', Blk w' g Z T → W.heap.size ≤ g → g < w'.heap.size → Frm (fun _ => False) W w' → Below base w w' → K (a.put o.dst (.pointer (some ⟨g, 0, none⟩))) w') : o.wp P a W K Q := by
  unfold Oper.wp execOp
  simp only [ho, Sem.run_bind, run_allocT T Z hz, Result.andThen_ok]
  exact h W.heap.size _ (Blk.new W _ _) (Nat.le_refl _) (by simp) (Frm.of_below ((Below.refl _ W).alloc (Nat.le_refl _) _)) (hb.alloc (Nat.le_trans hbase hb.size) _)
set_option maxRecDepth 100000 in
theorem wpList_allocT {P : Program} {ops : Array Oper} {rest : List Oper} {o : Oper} {a : Act} {W : World} {Q : Exit → Act → World → Prop} (hgd : o.guard = none) (T : TypeId) (Z : List Value) (hz : (P.info? T).map (·.zero) = some (some (.agg Z.toArray))) (ho : o.op = .alloc T) (base : Nat) (w : World) (hb : Below base w W) (hbase : base ≤ w.heap.size)
    (h : ∀ g w', Blk w' g Z T → W.heap.size ≤ g → g < w'.heap.size → Frm (fun _ => False) W w' → Below base w w' → wpList P ops Q rest (a.put o.dst (.pointer (some ⟨g, 0, none⟩))) w') : wpList P ops Q (o :: rest) a W :=
  wpList_plain hgd fun _ hK => wp_allocT T Z hz ho base w hb hbase (fun g w' h1 h2 h3 h4 h5 => hK _ _ (h g w' h1 h2 h3 h4 h5))
set_option maxRecDepth 100000 in
theorem at_alloc {P : Program} {ops : Array Oper} {rest : List Oper} {Q : Exit → Act → World → Prop} {a : Act} {w : World} {dst : Option Tmp} {t : TypeId} {p : String} {af : Array Edge} (ty : TypeId)
    (h : wpList P ops Q ({ dst := dst, op := .alloc ty, type := t, pos := p, after := af, guard := none } :: rest) a w) : wpList P ops Q ({ dst := dst, op := .alloc ty, type := t, pos := p, after := af, guard := none } :: rest) a w := h
set_option maxRecDepth 100000 in
theorem at_bldZ {P : Program} {ops : Array Oper} {rest : List Oper} {Q : Exit → Act → World → Prop} {a : Act} {w : World} {dst : Option Tmp} {t : TypeId} {p : String} {af : Array Edge} (ty : TypeId) (parts : Array (Nat × Operand))
    (h : wpList P ops Q ({ dst := dst, op := .build ty parts, type := t, pos := p, after := af, guard := none } :: rest) a w) : wpList P ops Q ({ dst := dst, op := .build ty parts, type := t, pos := p, after := af, guard := none } :: rest) a w := h
set_option maxRecDepth 100000 in
/-- A cell of a struct or an array is stored. -/
theorem run_storeAt_cell {P : Program} {w : World} {g off : Nat} {cs : List Value} {t : TypeId} (ty : TypeId) (v : Value) (hb : Blk w g cs t) (hoff : off < cs.length) (hi : (P.info? ty).map (·.size) = some 1) (h1 : v.oneCell' = true) (hc : v.cells = #[v]) :
    (Instr.storeAt ty (.pointer (some ⟨g, off, none⟩)) v).run P w = .ok () (w.setCell ⟨g, off, none⟩ v) := by
  have ht := hb.there off 1 (by omega)
  have := run_storeCells_cells (P := P) g off [v] 0 w (fun j hj => by simpa using (ht j (by simpa using hj)).1) (fun j hj => by simpa using (ht j (by simpa using hj)).2) (fun u hu => by simp at hu; rw [hu]; exact h1)
  obtain ⟨i, hq, hs⟩ := Option.map_eq_some_iff.1 hi
  simp only [Nat.add_zero] at this
  simp [Instr.storeAt, Instr.sureAddr, storeVar, sizeOf, typeInfo, hq, hc, hs, this, World.setCells]
set_option maxRecDepth 100000 in
theorem wp_storeC {P : Program} {o : Oper} {a : Act} {W : World} {K : Act → World → Prop} {Q : Exit → Act → World → Prop} (ty : TypeId) (x y : Operand) (ho : o.op = .store ty x y) (g off : Nat) (v : Value) (cs : List Value) (t : TypeId) (hx : a.eval x = .pointer (some ⟨g, off, none⟩)) (hy : a.eval y = v)
    (hb : Blk W g cs t) (hoff : off < cs.length) (hi : (P.info? ty).map (·.size) = some 1) (h1 : v.oneCell' = true) (hc : v.cells = #[v]) (h : ∀ w2, Blk w2 g (cs.set off v) t → Only g W w2 → K (a.put o.dst undef) w2) : o.wp P a W K Q := by
  unfold Oper.wp execOp
  simp only [ho, hx, hy, Sem.run_bind, Sem.run_pure, run_storeAt_cell ty v hb hoff hi h1 hc, Result.andThen_ok]
  exact h _ (hb.set off v) ((Only.refl g W).set off v)
end Go.Proofs.Ytplnmjdafchjbaa
