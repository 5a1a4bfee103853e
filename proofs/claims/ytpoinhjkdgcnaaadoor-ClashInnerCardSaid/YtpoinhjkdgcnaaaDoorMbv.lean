/- Merged texts: ClaI. -/
import Derived.Test.YtpoinhjkdgcnaaaDoorMbj
import Derived.Test.YtpoinhjkdgcnaaaDoorMbu
/- ClashInner, joined over what package clash is to answer. -/
namespace Go.Proofs.YtpoinhjkdgcnaaaDoor
open Go.RowKit
set_option linter.unusedVariables false
set_option linter.unusedSimpArgs false

set_option maxRecDepth 100000 in
set_option maxHeartbeats 4000000 in
theorem clashInner_join (AL : Option Addr) (n cL : Nat) (T : List (List UInt8)) (w : World) (hT : Tab w) (w0 : RdM w AL n T ∧ n ≤ cL ∧ cL ≤ maxLen) (CA0 : ∀ W, Tab W → Calls Tryd.prog 9 #[] W (Ret W (.bool true))) (GT0 : ∀ (W : World) (A : Option Addr) (n c : Nat) (T : List (List UInt8)), RdM W A n T → Tab W → n ≤ 9 → n ≤ c → c ≤ maxLen → (∀ t ∈ T, t.length ≤ 200) → Calls Tryd.prog 11 #[.slice A n c] W fun e w' => ∃ A' c', e = .returned (.slice A' (txs T).length c') ∧ RdM w' A' (txs T).length (txs T) ∧ Below W.heap.size W w') (GE0 : ∀ (W : World) (AL AT AP : Option Addr) (n cL k cT m cP : Nat) (c i : Int) (T : List (List UInt8)) (x : List UInt8) (P : List (List UInt8)), RdM W AL n T → Rd W AT k x → RdH W AP m P → Tab W → n ≤ 9 → n ≤ cL → cL ≤ maxLen → k ≤ cT → cT ≤ maxLen → m ≤ cP → cP ≤ maxLen → k ≤ 200 → m ≤ 20 → (∀ t ∈ T, t.length ≤ 200) → Calls Tryd.prog 17 #[.slice AL n cL, .slice AT k cT, .agg #[.int .i64 c, .int .i64 i, .slice AP m cP]] W fun e w' => ∃ A1 n1 c1 A2 n2 c2, e = .returned (.tuple #[.slice A1 n1 c1, .slice A2 n2 c2, .bool (ext (txs T) (claim c i P x)).isSome]) ∧ (Rd w' A1 n1 (exA (ext (txs T) (claim c i P x))) ∧ n1 ≤ c1 ∧ c1 ≤ maxLen) ∧ (Rd w' A2 n2 (exB (ext (txs T) (claim c i P x))) ∧ n2 ≤ c2 ∧ c2 ≤ maxLen) ∧ Below W.heap.size W w') : Calls Tryd.prog 7 #[.slice AL n cL] w (Ret w (.bool true)) := by
  obtain ⟨hL, hnc, hcl⟩ := w0
  have CA : Hid (∀ W, Below w.heap.size w W → Calls Tryd.prog 9 #[] W (Ret W (.bool true))) := Lib.hid fun W h => CA0 W (hT.all h)
  have CS : Hid (∀ W, Below w.heap.size w W → Calls Tryd.prog 8 #[.agg #[.slice AL n cL, .slice none 0 0, .int .i64 0, .int .i64 0, .slice none 0 0]] W (Ret W (.bool (smallC n 0 0 T)))) := Lib.hid fun W h => small_calls AL none none n cL 0 0 0 0 0 0 T W (hL.below h)
  cases hs : smallC n 0 0 T
  · rw [hs] at CS
    exact clashInner_asleep AL n cL T w CA CS
  rw [hs] at CS
  obtain ⟨h9, _, _, hTs⟩ := small_is hs
  have hln := hL.len
  have hT5 : ∀ t ∈ T, t.length ≤ 100000 := fun t ht => Nat.le_trans (hTs t ht) (by omega)
  by_cases h1 : (n : Int) < 3
  · exact clashInner_less AL n cL T w CA CS h1
  by_cases h2 : (4 : Int) < (n : Int)
  · exact clashInner_more AL n cL T w CA CS h1 h2
  have h34 : T.length = 3 ∨ T.length = 4 := by omega
  have SU : Hid (∀ W, Below w.heap.size w W → Calls Tryd.prog 22 #[.slice AL n cL] W fun e w' => ∃ A' c', e = .returned (.slice A' n c') ∧ RdH w' A' n (sums T) ∧ n ≤ c' ∧ c' ≤ maxLen ∧ Below W.heap.size W w') := Lib.hid fun W h => by
    refine (sums_calls AL n cL T W (hL.below h) (hT.all h) (by omega) (fun t ht => Nat.le_trans (hTs t ht) (by omega))).mono ?_
    rintro e w' ⟨A', c', rfl, h1, h2⟩
    exact ⟨A', c', rfl, h1.rd, h1.cap.1, h1.cap.2, h2⟩
  have DB : Hid (∀ (W : World) (A' : Option Addr) (c' : Nat), Below w.heap.size w W → RdH W A' n (sums T) → n ≤ c' → c' ≤ maxLen → Calls Tryd.prog 23 #[.slice A' n c'] W (Ret W (.bool (dbl (sums T))))) := Lib.hid fun W A' c' h1 h2 h3 h4 => gdoubled_calls A' n c' (sums T) W h2 (hT.all h1) (by omega) h3 h4
  cases hd : dbl (sums T)
  · rw [hd] at DB
    have hal : (abv (sums T)).length = 2 := by rw [abv_len, sums_len]; omega
    have hab := abv_34 (sums T) (by rw [sums_len]; exact h34)
    have h0 : (hat (abv (sums T)) 0).length = 32 := hat_32 (abv_32 _) (by omega)
    have h1' : (hat (abv (sums T)) 1).length = 32 := hat_32 (abv_32 _) (by omega)
    have hx64 : (tn (sums T) 0 0).length = 64 := tn_len (sums T) (sums_32 T) 0 0 (by rw [sums_len]; rcases h34 with h | h <;> rw [h] <;> decide)
    have hr32 := rootH_len (sums T) (sums_32 T)
    refine clashInner_walk AL n cL (txs T).length T (txs T) (tn (sums T) 0 0) (hat (abv (sums T)) 0) (hat (abv (sums T)) 1) ((rootH (sums T)).map B8) ((ds (tn (sums T) 0 0)).map B8) w CA CS h1 h2 SU DB (Lib.hid fun W h => GT0 W AL n cL T (hL.below h) (hT.all h) h9 hnc hcl hTs) (Lib.hid fun W A' c' k1 k2 k3 k4 => ?_) (Lib.hid fun W A' c' k1 k2 k3 k4 => groot_calls A' n c' (sums T) W k2 (hT.all k1) (by omega) k3 k4) (Lib.hid fun W g k1 k2 => ?_) (Lib.hid fun hne W g9 k1 k2 => ?_) (Lib.hid fun W A3 m3 c3 g9 k1 k2 k3 k4 k5 => ?_) (by rw [txs_34 T h34]; omega) (Lib.hid (by rw [← hln]; exact txs_first T h34)) h0 h1'
    · refine (gabove_calls A' n c' (sums T) W k2 (hT.all k1) (by omega) k3 k4).mono ?_
      have e2 : (n + 1) / 2 = 2 := by omega
      rw [e2]
      rintro e w' ⟨A5, c5, rfl, q1, q2, q3, q4⟩
      exact ⟨A5, c5, rfl, by rw [← hab]; exact q1, q4⟩
    · have := twice_calls W (some ⟨g, 0, none⟩) 1 1 [tn (sums T) 0 0] k2 (hT.all k1) (by omega) (by rw [one_flat]; omega)
      rw [one_flat] at this
      exact this
    · have := bcheck_calls 2 0 (some ⟨g9, 0, none⟩) 1 1 [hat (abv (sums T)) 1] (rootH (sums T)) (ds (tn (sums T) 0 0)) W k2 (hT.all k1) (ds_len _) hr32
      rw [inner_check T h34 hne] at this
      exact this
    · have hm3 := k2.1
      refine (GE0 W AL A3 (some ⟨g9, 0, none⟩) n cL m3 c3 1 1 2 0 T (tn (sums T) 0 0) [hat (abv (sums T)) 1] (hL.below k1) k2 k5 (hT.all k1) h9 hnc hcl k3 k4 (by omega) (by decide) (by omega) (by omega) hTs).mono ?_
      rintro e w' ⟨A1, n1, c1, A2, n2, c2, rfl, ⟨q1, _, _⟩, ⟨q2, _, _⟩, q3⟩
      refine ⟨A1, n1, c1, A2, n2, c2, _, _, _, rfl, fun hok => ?_, q1, q2, q3⟩
      have hok2 := ext_ok T [hat (abv (sums T)) 1] 2 0 (tn (sums T) 0 0) (by intro p hp; simp at hp; rw [hp]; exact h1') hT5 (by omega)
      rw [if_pos hok] at hok2
      exact hok2.1
  · rw [hd] at DB
    exact clashInner_doubled AL n cL T w CA CS h1 h2 SU DB
end Go.Proofs.YtpoinhjkdgcnaaaDoor
