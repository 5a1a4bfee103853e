/- Merged texts: BrnU. -/
import Derived.Test.YtnfcnjboeocnmaaDoorMbp
/- Layer 9: a hash stored into a list of hashes, with all that stays. -/
namespace Go.Proofs.YtnfcnjboeocnmaaDoor
open Go.RowKit
set_option linter.unusedVariables false
set_option linter.unusedSimpArgs false

set_option maxRecDepth 100000 in
theorem wpList_storeHF {ops : Array Oper} {rest : List Oper} {o : Oper} {a : Act} {W : World} {Q : Exit → Act → World → Prop} (hgd : o.guard = none) (x y : Operand) (ho : o.op = .store 35 x y) (base : Nat) (g n c : Nat) (L : List (List UInt8)) (hown : OwnH W base 35 (some ⟨g, 0, none⟩) n c L) (k : Nat) (hk : k < n)
    (V : List UInt8) (VC : List Value) (hVC : VC = V.map B8) (hV : V.length = 32) (hx : a.eval x = .pointer (some ⟨g, k * 32, none⟩)) (hy : a.eval y = .agg VC.toArray)
    (h : ∀ w', OwnH w' base 35 (some ⟨g, 0, none⟩) n c (L.set k V) → Only g W w' → wpList Tryd.prog ops Q rest (a.put o.dst undef) w') : wpList Tryd.prog ops Q (o :: rest) a W := by
  obtain ⟨h1, h2, h3, h4⟩ := hown
  rcases h4 with ⟨_, h0⟩ | ⟨g', cap, cur, hv, hbg, hg, hnc, hcm, hcs, hct⟩
  · omega
  injection hv with e1 e2 e3
  injection e1 with e1
  obtain ⟨rfl⟩ : g = g' := by injection e1
  have hV32 : VC.length = 32 := by rw [hVC, List.length_map, hV]
  have hcl : cur.toList.length = cap * 32 := by rw [Array.length_toList, hcs]
  have hbk : Blk W g cur.toList 35 := hg
  have hle : k * 32 + VC.length ≤ cur.toList.length := by rw [hV32, hcl]; omega
  refine wpList_store_mid hgd 35 x y ho g (k * 32) VC.toArray hx hy (hbk.there _ _ (by rw [List.size_toArray]; omega)) (by rw [List.size_toArray, hV32]; kernel_rfl) (all_oneCell_toArray (by rw [hVC]; exact b8_one _)) ?_
  have hs := Blk.setCells VC W cur.toList (k * 32) hbk hle
  refine h _ ⟨by rw [List.length_set, h1], fun z hz => ?_, ?_, .inr ⟨g, cap, (over cur.toList (k * 32) VC).toArray, by rw [e3], hbg, hs, hnc, hcm, ?_, ?_⟩⟩ (Only.setCells _ _ _ _ (Only.refl g W))
  · rcases List.mem_or_eq_of_mem_set hz with hz | hz
    · exact h2 z hz
    · rw [hz]; exact hV
  · rw [List.length_map, flat_len _ (fun z hz => by
      rcases List.mem_or_eq_of_mem_set hz with hz | hz
      · exact h2 z hz
      · rw [hz]; exact hV), List.length_set, h1]
  · rw [List.size_toArray, over_len _ _ _ hle, hcl]
  · show (over cur.toList (k * 32) VC).take (n * 32) = _
    rw [over_take _ _ _ _ (by rw [hV32]; omega) (by rw [hcl]; omega), hct, hVC, flat_set L k V h2 hV (by omega)]
set_option maxRecDepth 100000 in
/-- A bent branch that leads to the root meets the right one. -/
theorem bent_meets (L : List (List UInt8)) (i k : Nat) (h : List UInt8) (hi : i < L.length) (h6 : L.length ≤ 65536) (hk : k < depth L.length) (hne : hat (pth L i (depth L.length)) k ≠ h) (hc : chk (L.length : Int) (i : Int) ((pth L i (depth L.length)).set k h) (rootH L) (hat L i) = 0) : meetB i (hat L i) (hat L i) (pth L i (depth L.length)) ((pth L i (depth L.length)).set k h) = true := by
  obtain ⟨P, hP⟩ : ∃ P, P = pth L i (depth L.length) := ⟨_, rfl⟩
  have hPl : P.length = depth L.length := by rw [hP, pth_len]
  rw [← hP] at hne hc ⊢
  have hrg := rgt_made L i hi h6 (P.set k h).length (by rw [List.length_set, hPl])
  have hup : goUp L.length i (hat L i) (P.set k h) = some (rootH L) := by
    unfold chk upE at hc
    rw [hrg] at hc
    simp only [ne_eq, not_true_eq_false, if_false, Int.toNat_natCast] at hc
    cases hg : goUp L.length i (hat L i) (P.set k h) with
    | none => rw [hg] at hc; simp at hc
    | some x =>
      rw [hg] at hc
      simp at hc
      rw [hc]
  have hw := goUp_some _ _ _ _ _ hup
  have hm := made_way L i hi
  rw [← hP] at hm
  refine meet_two P (P.set k h) i _ _ (by rw [List.length_set]) (.inr fun e => ?_) (hm.trans hw.symm)
  apply hne
  have e2 : hat (P.set k h) k = h := by
    unfold hat
    rw [List.getD_eq_getElem?_getD, List.getElem?_set_self (by rw [hPl]; exact hk)]
    rfl
  rw [← e] at e2
  exact e2
end Go.Proofs.YtnfcnjboeocnmaaDoor
